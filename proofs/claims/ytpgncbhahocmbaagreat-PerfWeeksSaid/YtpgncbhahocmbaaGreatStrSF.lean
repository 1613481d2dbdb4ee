/-
  Package stream's Clock and Only: the seconds of parts.
-/
import Derived.Test.YtpgncbhahocmbaaGreatQas
import Derived.Test.YtpgncbhahocmbaaGreatSpC
import Derived.Test.YtpgncbhahocmbaaGreatSpF
namespace Go.Proofs.YtpgncbhahocmbaaGreat
open Go.RowKit
set_option linter.unusedVariables false
set_option linter.unusedSimpArgs false
set_option maxRecDepth 20000

theorem only1_any (x : SegP) (w : World) (bk : Nat) (kd : Int) (hk : Has w bk #[.int .i64 kd]) (b : Bool) (hb : ofKind kd x = b) :
    Calls Tryz.prog 54 #[.agg #[.int .i64 x.fr, .int .i64 x.to, .int .i64 x.kd, .int .i64 x.id, .int .i64 x.cd], .pointer (some ⟨bk, 0, none⟩)] w fun e w' => e = .returned (.bool b) ∧ Below w.heap.size w w' := by
  have hb0 := bel_alloc (Below.refl w.heap.size w) (.cells #[.int .i64 x.fr, .int .i64 x.to, .int .i64 x.kd, .int .i64 x.id, .int .i64 x.cd] 54)
  have qk := hk.cell 0 rfl
  have zk := cell_lt qk
  have e : (x.kd == kd) = b := by rw [← hb]; unfold ofKind; exact Bool.eq_iff_iff.2 (by simp)
  go_enter Tryz.func54, Tryz.ntmps54
  go_wp2
  go_ret
  exact ⟨by first | rfl | simp [e], by first | exact hb0 | (repeat' (first | with_reducible exact Below.refl _ _ | with_reducible assumption | with_reducible refine bel_alloc ?_ _ | with_reducible refine bel_set ?_ ?_ _ | with_reducible refine below_drewN ?_ _ | with_reducible refine below_drew ?_ | (simp; done) | (simp; omega) | omega))⟩
set_option maxHeartbeats 8000000 in
theorem secs_only (A : Option Addr) (n c : Nat) (l : List SegP) (w : World) (h : Segs w A n c l) (hn : n ≤ 100000) (hF : ∀ s ∈ l, Fit s.fr ∧ Fit s.to) (bk : Nat) (kd : Int) (hk : Has w bk #[.int .i64 kd]) :
    Calls Tryz.prog 53 #[.slice A n c, .func (.func 54) #[] #[.pointer (some ⟨bk, 0, none⟩)]] w (Gives w (clockP (l.filter (ofKind kd)))) := by
  have hlen := h.2
  have HL := Lib.hid h
  have HCK := Lib.hid (clock_spans (l.filter (ofKind kd)))
  have HFT : Hid (Fits ((l.filter (ofKind kd)).map spanOf)) := fun y hy => by obtain ⟨s, hs, rfl⟩ := List.mem_map.1 hy; exact hF s (List.mem_filter.1 hs).1
  have eg : ∀ args w, (callFunc 54 args).run Tryz.prog w = .ok (.enter 54 args) w := enters_of Tryz.func54 (by kernel_rfl) rfl
  have HK := Lib.hid hk
  clear hk
  clear h hF
  go_enter Tryz.func53, Tryz.ntmps53
  go_wp2
  go_loopg [5, 10] n (fun kx s5 s10 wr => ∃ (k q d : Nat) (B : Option Addr), s5 = .slice B q d ∧ s10 = .int .i64 k ∧ k + kx = n ∧ q ≤ k ∧ Hid ((((l.take k).filter (ofKind kd)).map spanOf).length = q) ∧ Hid (Row wr w.heap.size B d (((l.take k).filter (ofKind kd)).map spanOf)) ∧ Hid (Below w.heap.size w wr))
  case atStart => exact ⟨0, 0, 0, none, rfl, rfl, by omega, by omega, Lib.hid (by simp), Lib.hid (by rw [List.take_zero]; exact Row.nil _ _), Lib.hid (Below.refl _ _)⟩
  case round =>
    obtain ⟨k, q, d, B, rfl, rfl, hk, hqk, HQ, HR, HW⟩ := hrel
    by_cases hlt : k < n
    · have HLr := Lib.hid (HL.out.below HW.out)
      obtain ⟨ba, oa, rfl⟩ := HLr.out.form (by omega)
      obtain ⟨x, hx⟩ : ∃ x, l.getD k SegP.none = x := ⟨_, rfl⟩
      obtain ⟨z0, z1, z2, z3, z4⟩ := segs_num HLr.out hlt x hx
      have zl := cell_lt z0
      have HKF := Lib.hid (kind_filter (ofKind kd) l k (by omega))
      rw [hx] at HKF
      have i0 : (0 : Int) ≤ (k : Int) := by omega
      have i1 : (k : Int) < (n : Int) := by omega
      have hba := bel_alloc (Below.refl wr.heap.size wr) (.cells #[.int .i64 x.fr, .int .i64 x.to, .int .i64 x.kd, .int .i64 x.id, .int .i64 x.cd] 54)
      have HXA : Hid (Has (wr.alloc (.cells #[.int .i64 x.fr, .int .i64 x.to, .int .i64 x.kd, .int .i64 x.id, .int .i64 x.cd] 54)) wr.heap.size #[.int .i64 x.fr, .int .i64 x.to, .int .i64 x.kd, .int .i64 x.id, .int .i64 x.cd]) := Has.new wr _ _ rfl
      have HWA := Lib.hid (bel_on HW.out hba)
      have HRA := Lib.hid (HR.out.alloc (.cells #[.int .i64 x.fr, .int .i64 x.to, .int .i64 x.kd, .int .i64 x.id, .int .i64 x.cd] 54))
      clear hx hba
      cases hof : ofKind kd x with
      | true =>
        have HOF := Lib.hid (only1_any x _ bk kd (HK.out.below HWA.out) true hof)
        have HE1 : Hid (((l.take (k + 1)).filter (ofKind kd)).map spanOf = ((l.take k).filter (ofKind kd)).map spanOf ++ [(x.fr, x.to)]) := by show _ = _; rw [HKF.out, if_pos hof, List.map_append]; rfl
        clear hof
        go_wp2_with fail
        refine (HOF.out).mono ?_
        rintro e_r w5 ⟨rfl, hb5⟩
        have HX5 := Lib.hid (HXA.out.below hb5)
        have HW5 := Lib.hid (bel_on HWA.out hb5)
        have HR5 := Lib.hid (HRA.out.below hb5)
        obtain ⟨A9, c9, w9, hr9, row9, bel9, -, -, -⟩ := row_push HR5.out x.fr x.to (by have := HQ.out; omega) HW5.out.size (s := w5.heap.size) rfl
        rw [HQ.out] at hr9
        have HR9 := Lib.hid hr9
        have HW9 := Lib.hid (bel9 w (Nat.le_refl _) HW5.out)
        have HRW9 := Lib.hid row9
        obtain ⟨bx, hbx⟩ : ∃ bx, Hid (wr.heap.size = bx) := ⟨_, rfl⟩
        rw [hbx.out] at HX5
        rw [hbx.out]
        have y0 := HX5.out.cell 0 rfl
        have y1 := HX5.out.cell 1 rfl
        have yl := cell_lt y0
        clear hr9 row9 bel9 hb5 hbx z0 z1 z2 z3 z4 zl
        go_wp2_with (first | (at_builtin; refine wpList_append_run (o := ⟨some 24, _, _, _, _, _⟩) HR9.out rfl rfl rfl rfl ?_))
        go_roundg (n - (k + 1))
        case measure => omega
        case rel => exact ⟨k + 1, q + 1, c9, A9, rfl, by go_num, by omega, by omega, Lib.hid (by rw [HE1.out, List.length_append, HQ.out]; rfl), Lib.hid (by rw [HE1.out]; exact HRW9.out), HW9⟩
      | false =>
        have HOF := Lib.hid (only1_any x _ bk kd (HK.out.below HWA.out) false hof)
        have HE1 : Hid (((l.take (k + 1)).filter (ofKind kd)).map spanOf = ((l.take k).filter (ofKind kd)).map spanOf) := by show _ = _; rw [HKF.out, if_neg (by rw [hof]; simp), List.append_nil]
        clear hof
        go_wp2_with fail
        refine (HOF.out).mono ?_
        rintro e_r w5 ⟨rfl, hb5⟩
        have HW5 := Lib.hid (bel_on HWA.out hb5)
        have HR5 := Lib.hid (HRA.out.below hb5)
        clear hb5 z0 z1 z2 z3 z4 zl
        go_wp2
        go_roundg (n - (k + 1))
        case measure => omega
        case rel => exact ⟨k + 1, q, d, B, rfl, by go_num, by omega, by omega, Lib.hid (by rw [HE1.out]; exact HQ.out), Lib.hid (by rw [HE1.out]; exact HR5.out), HW5⟩
    · obtain rfl : k = n := by omega
      have e : l.take k = l := List.take_of_length_le (by omega)
      rw [e] at HR HQ
      have C := norm_any B d ((l.filter (ofKind kd)).map spanOf) wr (HR.out.spans HFT.out) (by have := HQ.out; omega)
      rw [HCK.out, HQ.out] at C
      have HC := Lib.hid C
      clear C e
      go_wp2_with fail
      refine HC.out.mono ?_
      intro e w4 hg
      have HG := gives_bel hg HW.out rfl
      clear hg
      obtain ⟨D, d4, rfl, hr, hb⟩ := HG
      go_wp2
      go_ret
      exact ⟨D, d4, rfl, hr, hb⟩
theorem sonly_any (A : Option Addr) (n c : Nat) (l : List SegP) (kd : Int) (w : World) (h : Segs w A n c l) (hn : n ≤ 1000) (hF : ∀ s ∈ l, Fit s.fr ∧ Fit s.to) :
    Calls Tryz.prog 18 #[.slice A n c, .int .i64 kd] w (Gives w (clockP (l.filter (ofKind kd)))) := by
  have hb0 := bel_alloc (Below.refl w.heap.size w) (.cells #[.int .i64 kd] 3)
  have HC := Lib.hid (secs_only A n c l _ (h.below hb0) (by omega) hF w.heap.size kd (Has.new w 3 _ rfl))
  have HB := Lib.hid hb0
  clear h hF hb0
  go_enter Tryz.func18, Tryz.ntmps18
  go_wp2_with fail
  refine HC.out.mono ?_
  intro e w4 hg
  have HG := gives_bel hg HB.out rfl
  clear hg
  obtain ⟨D, d, rfl, hr, hb⟩ := HG
  go_wp2
  go_ret
  exact ⟨D, d, rfl, hr, hb⟩
end Go.Proofs.YtpgncbhahocmbaaGreat
