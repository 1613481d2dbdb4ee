/-
  Package over: the function that days come out of, and the closure that tells a day's first seconds.
-/
import Derived.Test.YtdlimgpmmkcgmaaGreatZap
import Derived.Test.YtdlimgpmmkcgmaaGreatZba
import Derived.Test.YtdlimgpmmkcgmaaGreatZax
import Derived.Test.YtdlimgpmmkcgmaaGreatZas
import Derived.Test.YtdlimgpmmkcgmaaGreatZay
import Derived.OwnWalkIn
import Derived.TacticsInMore
import Derived.LoopNIn
import Derived.LoopIn
namespace Go.Proofs.YtdlimgpmmkcgmaaGreat
open Go.RowKit
set_option linter.unusedVariables false
set_option linter.unusedSimpArgs false
set_option maxRecDepth 20000
attribute [local go_sem] Oper.semAt_some

theorem odays_any (A : Option Addr) (n c : Nat) (w : World) : Calls Tryz.prog 56 #[.slice A n c] w fun e w' => e = .returned (.func (.func 104) #[] #[.pointer (some ⟨w.heap.size, 0, none⟩)]) ∧ w' = w.alloc (.cells #[.slice A n c] 40) := by
  go_enter Tryz.func56, Tryz.ntmps56
  go_wp2
  go_ret
  exact ⟨rfl, rfl⟩
theorem ofirst_c (g : Nat) (B : Option Addr) (m c : Nat) (xs : List (Int × Int)) (n : Int) (w : World) (hg : Has w g #[.slice B m c]) (hm : xs.length = m) (hx : Spans w B xs) (hl : m ≤ 100000000) (hn : Fit n) :
    Calls Tryz.prog 57 #[.int .i64 n, .pointer (some ⟨g, 0, none⟩)] w (Gives w (canon fun t => In xs t ∧ cnt (In xs) t.toNat < n)) := by
  subst hm
  have HF := Lib.hid (first_any B c xs n w hx hl hn)
  have q := hg.cell 0 rfl
  have z := hg.size
  clear hx hn
  generalize (canon fun t => In xs t ∧ cnt (In xs) t.toNat < n) = L at *
  go_enter Tryz.func57, Tryz.ntmps57
  go_wp2_with fail
  refine HF.out.mono ?_
  rintro e w1 ⟨A1, c1, rfl, r1, b1⟩
  clear q z hg HF
  go_wp2_with fail
  go_ret
  exact ⟨A1, c1, rfl, r1, b1⟩
/-- The list of the j-th of the days of xs. -/
noncomputable def dayAt (xs : List (Int × Int)) (j : Nat) : List (Int × Int) := ofDayP (In xs) ((daysP (In xs)).getD j 0)
set_option maxHeartbeats 4000000 in
theorem odays_seq (Bn cap : Nat) (A : Option Addr) (xs : List (Int × Int)) (G0 : Nat → Prop) (w : World) (hB : Bn < w.heap.size) (hGB : G0 Bn) (hc : Has w Bn #[.slice A xs.length cap]) (hx : Spans w A xs) (hGA : ∀ a, A = some a → G0 a.block) (hG0 : ∀ b, G0 b → b < w.heap.size) (hl : xs.length ≤ 100000000) :
    SeqL Tryz.prog 104 #[.pointer (some ⟨Bn, 0, none⟩)] G0 (daysP (In xs)).length (dayAt xs) w := by
  intro l J W hW hJ hY h0
  have hcW := hc.below hW
  have HX := Lib.hid (hx.below hW)
  have HC := Lib.hid hcW
  have HY := Lib.hid hY
  have HJ := Lib.hid hJ
  have HDY := Lib.hid (days_any A cap xs W HX.out hl)
  have HFD : Hid (∀ j, Fits (dayAt xs j)) := fun j => Fits.canon _
  have HOD := Lib.hid (fun W2 j (hW2 : Spans W2 A xs) => ofday_any A cap xs ((daysP (In xs)).getD j 0) W2 hW2 hl)
  have hN := daysP_len (In xs)
  have hGW : ∀ b, G0 b → b < W.heap.size := fun b hb => Nat.lt_of_lt_of_le (hG0 b hb) hW.size
  have HGW := Lib.hid hGW
  have HGA := Lib.hid hGA
  have HGB := Lib.hid hGB
  have q := hcW.cell 0 rfl
  have z := hcW.size
  clear hc hx hGA hG0 hl hW hY hJ hcW hGW hGB
  change Hid (∀ W2 j, Spans W2 A xs → Calls _ _ _ W2 (Gives W2 (dayAt xs j))) at HOD
  generalize dayAt xs = Lf at *
  generalize daysP (In xs) = D at *
  obtain ⟨N, hDN⟩ : ∃ N, D.length = N := ⟨_, rfl⟩
  rw [hDN] at hN HY
  rw [hDN]
  have HDN := Lib.hid hDN
  generalize hxn : xs.length = xn at *
  have HXN := Lib.hid hxn
  clear hDN hxn
  refine callsIn_of_wp Tryz.func104 rfl trivial ?_ rfl
  simp only [Tryz.ntmps104, List.size_toArray, List.length_cons, List.length_nil, Nat.reduceAdd, Nat.reduceSub, Array.replicate_succ, Array.replicate_zero, List.push_toArray, List.append_toArray, List.nil_append, List.cons_append]
  gi_wp2_with fail
  refine ⟨trivial, rfl, (callsIn_wide.2 HDY.out).mono ?_⟩
  rintro e w1 ⟨E, ec, rfl, r1, b1⟩
  have HJ1 := Lib.hid (HJ.out _ _ _ _ h0 b1)
  have HE := Lib.hid r1
  have HB1 := Lib.hid b1
  have hz1 := b1.size
  rw [HDN.out]
  clear r1 b1 h0 q HDY
  gi_wp2
  gi_loopw [8] (fun i wr => ∃ (k : Nat) (G : Nat → Prop), k ≤ N ∧ i = .int .i64 k ∧ Hid (J G k wr) ∧ Hid (∀ b, Grow G0 W w1 b → G b) ∧ Hid (Kept (Grow G0 W w1) w1 wr)) (fun i _ => N - (intOf i).toNat)
  case atStart => exact ⟨0, _, Nat.zero_le _, rfl, HJ1, Lib.hid (fun b hb => hb), Lib.hid (Kept.refl _ _)⟩
  case round =>
    obtain ⟨k, G, hk, rfl, hJs, hGs, hKp⟩ := hrel
    by_cases hlt : k < N
    · have hXr : Spans wr A xs := spans_kept (HX.out.below HB1.out) hKp.out fun a ha => .inl (HGA.out a ha)
      have hCr : Has wr Bn #[.slice A xn cap] := (HC.out.below HB1.out).kept (.inl HGB.out) hKp.out
      have q := hCr.cell 0 rfl
      have hEr : NRow wr W.heap.size E ec D := HE.out.keep fun a ha => hKp.out.block _ (.inr ⟨(HE.out.lt a ha).1, (HE.out.lt a ha).2⟩)
      obtain ⟨bd, od, rfl, hcd⟩ := hEr.nums k (by rw [HDN.out]; exact hlt)
      have HODr := Lib.hid (HOD.out wr k hXr)
      have zr := hCr.size
      generalize D.getD k 0 = d at *
      have i0 : (0 : Int) ≤ (k : Int) := by omega
      have i1 : (k : Int) < (N : Int) := by omega
      have hbd := cell_lt hcd
      clear hXr hCr hEr
      gi_wp2_with fail
      refine ⟨trivial, rfl, (callsIn_wide.2 HODr.out).mono ?_⟩
      rintro e w2 ⟨F, fc, rfl, r2, b2⟩
      have HJ2 := Lib.hid (HJ.out _ _ _ _ hJs.out b2)
      obtain ⟨fn, tmps, assign, body, hy, hR⟩ := HY.out _ k w2 F fc HJ2.out hlt (r2.spans (HFD.out k)) (fun a ha => .inr (r2.lt a ha))
      have HB2 := Lib.hid b2
      clear q hcd hbd r2 b2
      gi_wp2
      refine ⟨rfl, hR.mono ?_⟩
      rintro e W3 ⟨rfl, J3, k3⟩
      have HJ3 := Lib.hid J3
      have HK3 := Lib.hid k3
      clear J3 k3 hR hy
      gi_wp2
      go_roundw
      case rel =>
        refine ⟨k + 1, _, by omega, by go_num, HJ3, Lib.hid (fun b hb => .inl (hGs.out b hb)), Lib.hid ?_⟩
        refine hKp.out.on ((Kept.of_below HB2.out fun b hb => ?_).on (HK3.out.less fun b hb => .inl (hGs.out b hb)))
        have := hKp.out.size
        rcases hb with hb | hb
        · have := HGW.out b hb; omega
        · omega
      case measure => simp [intOf]; omega
    · obtain rfl : k = N := by omega
      gi_wp2
      go_end0
      exact ⟨⟨_, rfl⟩, G, hJs.out⟩
end Go.Proofs.YtdlimgpmmkcgmaaGreat
