/-
  lumperref07: Read (the walk).
-/
import Derived.Test.YtdhkfhgggkndoaaZE
import Derived.Test.YtdhkfhgggkndoaaZA
import Derived.Test.YtdhkfhgggkndoaaZD
import Derived.Test.YtdhkfhgggkndoaaByStr
import Derived.StillTailTactics
namespace Go.Proofs.Ytdhkfhgggkndoaa
open Go.RowKit
set_option linter.unusedVariables false
set_option linter.unusedSimpArgs false
set_option maxRecDepth 100000

set_option maxHeartbeats 16000000 in
theorem rsread_c (Bb : Option Addr) (m d : Nat) (b : List (BitVec 8)) (w : World) (hx : Sl 1 w Bb m d (bytesV b)) (hmd : m ≤ d) (hm : m ≤ 2000) (s : SetP) (E : Int) (hX : readE b = (s, E)) :
    Calls Try.prog 11 #[.slice Bb m d] w fun e w' => ∃ cs, e = .returned (.tuple #[.agg cs, .int .i64 E]) ∧ SetC w' s cs ∧ Below w.heap.size w w' := by
  obtain ⟨L, hL⟩ : ∃ L, (allN b).getD [] = L := ⟨_, rfl⟩
  obtain ⟨n, hn⟩ : ∃ n, L.length = n := ⟨_, rfl⟩
  have HOK : Hid (okN L) := by rw [← hL]; exact allN_ok b
  have HPO : Hid (∀ z ∈ L, 0 ≤ z) := fun z hz => (HOK.out z hz).1
  have HX := Lib.hid hX
  have HRP := Lib.hid (readE_parse b)
  rw [hL] at HRP
  have HN := Lib.hid hn
  have HBY := Lib.hid hx
  have HALL := Lib.hid (fun wx (hb : Below w.heap.size w wx) => rall_any Bb m d b wx (hx.below hb) hmd hm L n hL hn)
  clear hx hX hL hn
  go_enter Try.func11, Try.ntmps11
  go_wp2_with fail
  refine (HALL.out _ (by (repeat' (first | with_reducible exact Below.refl _ _ | with_reducible assumption | with_reducible refine bel_alloc ?_ _ | with_reducible refine bel_set ?_ ?_ _ | with_reducible refine below_drewN ?_ _ | with_reducible refine below_drew ?_ | (simp; done) | (simp; omega) | omega)))).mono ?_
  rintro e w1 ⟨Al, cl, rfl, rl, b1⟩
  have HT2 := Lib.hid ((Has.new w 30 z23 rfl).below b1)
  replace b1 := bel_on (bel_alloc (Below.refl _ _) _) b1
  have hAl := rl.lt
  have HNL := Lib.hid rl
  have ht2 := HT2.out.size
  have HAT := Lib.hid (rat_i (c := cl) rl.nums HN.out 0 0 rfl (by omega) _ rfl)
  clear HALL rl
  go_wp2_with fail
  refine HAT.out.mono ?_
  rintro e u ⟨rfl, rfl⟩
  clear HAT
  have HC0 : Hid ((#[.int .i64 (atL L 0), .slice none 0 0, .int .i64 0, .int .i64 0, .slice none 0 0, .slice none 0 0, .slice none 0 0, .int .i64 0, .int .i64 0, .int .i64 0, .int .i64 0, .int .i64 0, .int .i64 0, .int .i64 0, .int .i64 0, .int .i64 0, .int .i64 0, .int .i64 0, .slice none 0 0, .int .i64 0, .int .i64 0, .int .i64 0, .slice none 0 0] : Array Value).size = 23 ∧ (#[.int .i64 (atL L 0), .slice none 0 0, .int .i64 0, .int .i64 0, .slice none 0 0, .slice none 0 0, .slice none 0 0, .int .i64 0, .int .i64 0, .int .i64 0, .int .i64 0, .int .i64 0, .int .i64 0, .int .i64 0, .int .i64 0, .int .i64 0, .int .i64 0, .int .i64 0, .slice none 0 0, .int .i64 0, .int .i64 0, .int .i64 0, .slice none 0 0] : Array Value).all (·.oneCell') = true) := Lib.hid ⟨rfl, by simp [Value.oneCell']⟩
  obtain ⟨B, hBe⟩ : ∃ B, w1.heap.size = B := ⟨_, rfl⟩
  have HB0 : Hid (Has (w1.alloc (.cells #[.int .i64 (atL L 0), .slice none 0 0, .int .i64 0, .int .i64 0, .slice none 0 0, .slice none 0 0, .slice none 0 0, .int .i64 0, .int .i64 0, .int .i64 0, .int .i64 0, .int .i64 0, .int .i64 0, .int .i64 0, .int .i64 0, .int .i64 0, .int .i64 0, .int .i64 0, .slice none 0 0, .int .i64 0, .int .i64 0, .int .i64 0, .slice none 0 0] 30)) B #[.int .i64 (atL L 0), .slice none 0 0, .int .i64 0, .int .i64 0, .slice none 0 0, .slice none 0 0, .slice none 0 0, .int .i64 0, .int .i64 0, .int .i64 0, .int .i64 0, .int .i64 0, .int .i64 0, .int .i64 0, .int .i64 0, .int .i64 0, .int .i64 0, .int .i64 0, .slice none 0 0, .int .i64 0, .int .i64 0, .int .i64 0, .slice none 0 0]) := Lib.hid (Has.new _ _ _ hBe)
  have HNU : Hid (∀ wx, Kept (FB (w1.alloc (.cells #[.int .i64 (atL L 0), .slice none 0 0, .int .i64 0, .int .i64 0, .slice none 0 0, .slice none 0 0, .slice none 0 0, .int .i64 0, .int .i64 0, .int .i64 0, .int .i64 0, .int .i64 0, .int .i64 0, .int .i64 0, .int .i64 0, .int .i64 0, .int .i64 0, .int .i64 0, .slice none 0 0, .int .i64 0, .int .i64 0, .int .i64 0, .slice none 0 0] 30)) B) (w1.alloc (.cells #[.int .i64 (atL L 0), .slice none 0 0, .int .i64 0, .int .i64 0, .slice none 0 0, .slice none 0 0, .slice none 0 0, .int .i64 0, .int .i64 0, .int .i64 0, .int .i64 0, .int .i64 0, .int .i64 0, .int .i64 0, .int .i64 0, .int .i64 0, .int .i64 0, .int .i64 0, .slice none 0 0, .int .i64 0, .int .i64 0, .int .i64 0, .slice none 0 0] 30)) wx → Nums wx Al L) := fun wx h => ((HNL.out.alloc _).keep fun g hg => h.block _ ⟨by have := (hAl g hg).2; simp; omega, by have := (hAl g hg).2; omega⟩).nums
  have HT2K : Hid (∀ wx, Kept (FB (w1.alloc (.cells #[.int .i64 (atL L 0), .slice none 0 0, .int .i64 0, .int .i64 0, .slice none 0 0, .slice none 0 0, .slice none 0 0, .int .i64 0, .int .i64 0, .int .i64 0, .int .i64 0, .int .i64 0, .int .i64 0, .int .i64 0, .int .i64 0, .int .i64 0, .int .i64 0, .int .i64 0, .slice none 0 0, .int .i64 0, .int .i64 0, .int .i64 0, .slice none 0 0] 30)) B) (w1.alloc (.cells #[.int .i64 (atL L 0), .slice none 0 0, .int .i64 0, .int .i64 0, .slice none 0 0, .slice none 0 0, .slice none 0 0, .int .i64 0, .int .i64 0, .int .i64 0, .int .i64 0, .int .i64 0, .int .i64 0, .int .i64 0, .int .i64 0, .int .i64 0, .int .i64 0, .int .i64 0, .slice none 0 0, .int .i64 0, .int .i64 0, .int .i64 0, .slice none 0 0] 30)) wx → Has wx w.heap.size z23) := fun wx h => (HT2.out.alloc _).kept ⟨by simp; omega, by omega⟩ h
  have HBW : Hid (∀ wx, Kept (FB (w1.alloc (.cells #[.int .i64 (atL L 0), .slice none 0 0, .int .i64 0, .int .i64 0, .slice none 0 0, .slice none 0 0, .slice none 0 0, .int .i64 0, .int .i64 0, .int .i64 0, .int .i64 0, .int .i64 0, .int .i64 0, .int .i64 0, .int .i64 0, .int .i64 0, .int .i64 0, .int .i64 0, .slice none 0 0, .int .i64 0, .int .i64 0, .int .i64 0, .slice none 0 0] 30)) B) (w1.alloc (.cells #[.int .i64 (atL L 0), .slice none 0 0, .int .i64 0, .int .i64 0, .slice none 0 0, .slice none 0 0, .slice none 0 0, .int .i64 0, .int .i64 0, .int .i64 0, .int .i64 0, .int .i64 0, .int .i64 0, .int .i64 0, .int .i64 0, .int .i64 0, .int .i64 0, .int .i64 0, .slice none 0 0, .int .i64 0, .int .i64 0, .int .i64 0, .slice none 0 0] 30)) wx → Below w.heap.size w wx) := fun wx h => b1.trans (Kept.below ((Kept.of_below (bel_alloc (Below.refl _ _) _) (fun i (hi : i < w.heap.size) => by have := b1.size; omega)).on (h.less fun i (hi : i < w.heap.size) => ⟨by have := b1.size; simp; omega, by have := b1.size; omega⟩)) fun i hi => hi)
  have hBlt : B < (w1.alloc (.cells #[.int .i64 (atL L 0), .slice none 0 0, .int .i64 0, .int .i64 0, .slice none 0 0, .slice none 0 0, .slice none 0 0, .int .i64 0, .int .i64 0, .int .i64 0, .int .i64 0, .int .i64 0, .int .i64 0, .int .i64 0, .int .i64 0, .int .i64 0, .int .i64 0, .int .i64 0, .slice none 0 0, .int .i64 0, .int .i64 0, .int .i64 0, .slice none 0 0] 30)).heap.size := by simp; omega
  have hNB : w.heap.size < B := by omega
  go_wp2_with (refine wpList_laidS #[.int .i64 (atL L 0), .slice none 0 0, .int .i64 0, .int .i64 0, .slice none 0 0, .slice none 0 0, .slice none 0 0, .int .i64 0, .int .i64 0, .int .i64 0, .int .i64 0, .int .i64 0, .int .i64 0, .int .i64 0, .int .i64 0, .int .i64 0, .int .i64 0, .int .i64 0, .slice none 0 0, .int .i64 0, .int .i64 0, .int .i64 0, .slice none 0 0] 5 _ _ rfl rfl rfl rfl rfl rfl rfl rfl HC0.out.1 HC0.out.2 ?_)
  have hK0 : Kept (FB (w1.alloc (.cells #[.int .i64 (atL L 0), .slice none 0 0, .int .i64 0, .int .i64 0, .slice none 0 0, .slice none 0 0, .slice none 0 0, .int .i64 0, .int .i64 0, .int .i64 0, .int .i64 0, .int .i64 0, .int .i64 0, .int .i64 0, .int .i64 0, .int .i64 0, .int .i64 0, .int .i64 0, .slice none 0 0, .int .i64 0, .int .i64 0, .int .i64 0, .slice none 0 0] 30)) B) (w1.alloc (.cells #[.int .i64 (atL L 0), .slice none 0 0, .int .i64 0, .int .i64 0, .slice none 0 0, .slice none 0 0, .slice none 0 0, .int .i64 0, .int .i64 0, .int .i64 0, .int .i64 0, .int .i64 0, .int .i64 0, .int .i64 0, .int .i64 0, .int .i64 0, .int .i64 0, .int .i64 0, .slice none 0 0, .int .i64 0, .int .i64 0, .int .i64 0, .slice none 0 0] 30)) (w1.alloc (.cells #[.int .i64 (atL L 0), .slice none 0 0, .int .i64 0, .int .i64 0, .slice none 0 0, .slice none 0 0, .slice none 0 0, .int .i64 0, .int .i64 0, .int .i64 0, .int .i64 0, .int .i64 0, .int .i64 0, .int .i64 0, .int .i64 0, .int .i64 0, .int .i64 0, .int .i64 0, .slice none 0 0, .int .i64 0, .int .i64 0, .int .i64 0, .slice none 0 0] 30)) := Kept.refl _ _
  generalize w1.alloc (.cells #[.int .i64 (atL L 0), .slice none 0 0, .int .i64 0, .int .i64 0, .slice none 0 0, .slice none 0 0, .slice none 0 0, .int .i64 0, .int .i64 0, .int .i64 0, .int .i64 0, .int .i64 0, .int .i64 0, .int .i64 0, .int .i64 0, .int .i64 0, .int .i64 0, .int .i64 0, .slice none 0 0, .int .i64 0, .int .i64 0, .int .i64 0, .slice none 0 0] 30) = W0 at *
  clear HC0 HNL HT2 hBe b1 hAl ht2
  obtain ⟨n1, hn1⟩ : ∃ k, manyL L 1 = k := ⟨_, rfl⟩
  have hm1 := many_le L 1
  rw [hn1] at hm1
  have HM1 := Lib.hid (fun wx (h : Kept (FB W0 B) W0 wx) => rmany_i (c := cl) (HNU.out wx h) HN.out HPO.out 1 1 rfl (by omega) n1 hn1)
  have HN1 := Lib.hid hn1
  clear hn1
  go_loopw [6, 7] (fun vp vi wr => ∃ (j p : Nat) (A : Option Addr) (c : Nat) (rows : Rows2), j ≤ n1 ∧ p = 2 + 3 * j ∧ vp = .int .i64 (p : Int) ∧ vi = .int .i64 (j : Int) ∧ Hid (rows = rowsAt L 2 3 j) ∧ TRow 55 3 wr W0.heap.size A j c rows ∧ Hid (Has wr B #[.int .i64 (atL L 0), .slice A j c, .int .i64 0, .int .i64 0, .slice none 0 0, .slice none 0 0, .slice none 0 0, .int .i64 0, .int .i64 0, .int .i64 0, .int .i64 0, .int .i64 0, .int .i64 0, .int .i64 0, .int .i64 0, .int .i64 0, .int .i64 0, .int .i64 0, .slice none 0 0, .int .i64 0, .int .i64 0, .int .i64 0, .slice none 0 0]) ∧ Kept (FB W0 B) W0 wr) (fun _ vi _ => n1 - (intOf vi).toNat)
  case atStart => exact ⟨0, 2, none, 0, [], by omega, rfl, rfl, rfl, Lib.hid (by simp [rowsAt]), TRow.nil _ _, HB0, hK0⟩
  case round => as_aux_lemma =>
    obtain ⟨j, p, A, c, rows, hj, hp, rfl, rfl, hrw, hrow, hB, hK0⟩ := hrel
    have HP := Lib.hid hp
    have hpb : p ≤ 400 := by omega
    have hw1 : IntKind.i64.wrap ((p : Int) + 1) = (p : Int) + 1 := by rw [IntKind.wrap_i64]; omega
    have hw2 : IntKind.i64.wrap ((p : Int) + 2) = (p : Int) + 2 := by rw [IntKind.wrap_i64]; omega
    have hw3 : IntKind.i64.wrap ((p : Int) + 3) = (p : Int) + 3 := by rw [IntKind.wrap_i64]; omega
    clear hp
    go_wp2_with fail
    refine (HM1.out _ hK0).mono ?_
    rintro e u ⟨rfl, rfl⟩
    by_cases hlt : j < n1
    · have e0 : (j : Int) < (n1 : Int) := by omega
      have HRW : Hid (rows ++ [[atL L p, atL L (p + 1), atL L (p + 2)]] = rowsAt L 2 3 (j + 1)) := by
        show _ = _
        rw [rowsAt_succ, hrw.out]
        have hp := HP.out
        subst hp
        simp [List.range_succ]
      have HA0 := Lib.hid (fun x hx => rat_i (w := wr.drew) (c := cl) (HNU.out wr hK0) HN.out (p : Int) p rfl (by have := HP.out; omega) x hx)
      have HA1 := Lib.hid (fun x hx => rat_i (w := wr.drew) (c := cl) (HNU.out wr hK0) HN.out ((p : Int) + 1) (p + 1) (by omega) (by have := HP.out; omega) x hx)
      have HA2 := Lib.hid (fun x hx => rat_i (w := wr.drew) (c := cl) (HNU.out wr hK0) HN.out ((p : Int) + 2) (p + 2) (by omega) (by have := HP.out; omega) x hx)
      replace HA0 := Lib.hid (HA0.out _ rfl)
      replace HA1 := Lib.hid (HA1.out _ rfl)
      replace HA2 := Lib.hid (HA2.out _ rfl)
      generalize atL L p = x0 at *
      generalize atL L (p + 1) = x1 at *
      generalize atL L (p + 2) = x2 at *
      refine trow_lay (w := wr.drew) Try.underlying22 way_info rfl (by omega) (by omega) hrow.drew [x0, x1, x2] rfl (by omega) hK0.size ?_
      intro A5 c5 w5 hr5 hrow5 hk5
      have HR5 : Hid ((Builtin.append_ #[22, 22] 22 #[.slice A j c, .slice (some ⟨wr.heap.size, 0, none⟩) 1 1]).run Try.prog (wr.alloc (.cells #[.int .i64 x0, .int .i64 x1, .int .i64 x2] 55)).drew = .ok (.slice A5 (j + 1) c5) w5) := hr5
      have HB5 := Lib.hid (Has.kept (w := wr.drew) hB.out hBlt hk5)
      have HB6 : Hid (Has (w5.setCell ⟨B, 1, none⟩ (.slice A5 (j + 1) c5)) B #[.int .i64 (atL L 0), .slice A5 (j + 1) c5, .int .i64 0, .int .i64 0, .slice none 0 0, .slice none 0 0, .slice none 0 0, .int .i64 0, .int .i64 0, .int .i64 0, .int .i64 0, .int .i64 0, .int .i64 0, .int .i64 0, .int .i64 0, .int .i64 0, .int .i64 0, .int .i64 0, .slice none 0 0, .int .i64 0, .int .i64 0, .int .i64 0, .slice none 0 0]) := Lib.hid (by
        have h := Has.set HB5.out 1 (.slice A5 (j + 1) c5)
        simpa only [List.setIfInBounds_toArray, List.set_cons_zero, List.set_cons_succ] using h)
      have hK6 := fb_set (fb_low (w := wr.drew) ⟨hK0.os, hK0.tape, hK0.output, hK0.size, hK0.block⟩ hk5) 1 (.slice A5 (j + 1) c5)
      clear hr5 hk5
      go_wp2
      refine wp_region_noPanic ?_
      refine wp_region_held_drew (S := fun _ => True) (by kernel_rfl) trivial (fun hHeld => ?_)
      refine wpAnyH_take (i := 0) (oi := ⟨some 26, _, _, _, _, _⟩) (v := ?_) rfl (by kernel_rfl) (by kernel_rfl) (by kernel_rfl) (fun _ _ _ h => h) (Or.inl ⟨by rfl, ?_⟩) hHeld ?_
      rotate_left
      · intro ww hSw
        (try dsimp only at hSw)
        go_simp
        (try with_reducible rfl)
      simp only [Act.put, List.setIfInBounds_toArray, List.set_cons_zero, List.set_cons_succ]
      refine wpAnyH_take (i := 2) (oi := ⟨some 28, _, _, _, _, _⟩) (v := ?_) rfl (by kernel_rfl) (by kernel_rfl) (by kernel_rfl) (fun _ _ _ h => h) (Or.inl ⟨by rfl, ?_⟩) hHeld ?_
      rotate_left
      · intro ww hSw
        (try dsimp only at hSw)
        go_simp
        (try with_reducible rfl)
      simp only [Act.put, List.setIfInBounds_toArray, List.set_cons_zero, List.set_cons_succ]
      refine wpAnyH_take (i := 3) (oi := ⟨some 29, _, _, _, _, _⟩) (v := ?_) rfl (by kernel_rfl) (by kernel_rfl) (by kernel_rfl) (fun _ _ _ h => h) (Or.inl ⟨by rfl, ?_⟩) hHeld ?_
      rotate_left
      · intro ww hSw
        (try dsimp only at hSw)
        go_simp
        (try with_reducible rfl)
      simp only [Act.put, List.setIfInBounds_toArray, List.set_cons_zero, List.set_cons_succ]
      refine wpAnyH_take (i := 5) (oi := ⟨some 31, _, _, _, _, _⟩) (v := ?_) rfl (by kernel_rfl) (by kernel_rfl) (by kernel_rfl) (fun _ _ _ h => h) (Or.inl ⟨by rfl, ?_⟩) hHeld ?_
      rotate_left
      · intro ww hSw
        (try dsimp only at hSw)
        go_simp
        (try with_reducible rfl)
      simp only [Act.put, List.setIfInBounds_toArray, List.set_cons_zero, List.set_cons_succ]
      refine wpAnyH_take (i := 6) (oi := ⟨some 32, _, _, _, _, _⟩) (v := ?_) rfl (by kernel_rfl) (by kernel_rfl) (by kernel_rfl) (fun _ _ _ h => h) (Or.inl ⟨by rfl, ?_⟩) hHeld ?_
      rotate_left
      · intro ww hSw
        (try dsimp only at hSw)
        go_simp
        (try with_reducible rfl)
      simp only [Act.put, List.setIfInBounds_toArray, List.set_cons_zero, List.set_cons_succ]
      refine wpAnyH_take (i := 7) (oi := ⟨some 33, _, _, _, _, _⟩) (v := ?_) rfl (by kernel_rfl) (by kernel_rfl) (by kernel_rfl) (fun _ _ _ h => h) (Or.inl ⟨by rfl, ?_⟩) hHeld ?_
      rotate_left
      · intro ww hSw
        (try dsimp only at hSw)
        go_simp
        (try with_reducible rfl)
      simp only [Act.put, List.setIfInBounds_toArray, List.set_cons_zero, List.set_cons_succ]
      refine wpAnyH_take (i := 9) (oi := ⟨some 35, _, _, _, _, _⟩) (v := ?_) rfl (by kernel_rfl) (by kernel_rfl) (by kernel_rfl) (fun _ _ _ h => h) (Or.inl ⟨by rfl, ?_⟩) hHeld ?_
      rotate_left
      · intro ww hSw
        (try dsimp only at hSw)
        go_simp
        (try with_reducible rfl)
      simp only [Act.put, List.setIfInBounds_toArray, List.set_cons_zero, List.set_cons_succ]
      refine wpAnyH_take (i := 10) (oi := ⟨some 36, _, _, _, _, _⟩) (v := ?_) rfl (by kernel_rfl) (by kernel_rfl) (by kernel_rfl) (fun _ _ _ h => h) (Or.inl ⟨by rfl, ?_⟩) hHeld ?_
      rotate_left
      · intro ww hSw
        (try dsimp only at hSw)
        go_simp
        (try with_reducible rfl)
      simp only [Act.put, List.setIfInBounds_toArray, List.set_cons_zero, List.set_cons_succ]
      refine wpAnyH_take (i := 11) (oi := ⟨some 37, _, _, _, _, _⟩) (v := ?_) rfl (by kernel_rfl) (by kernel_rfl) (by kernel_rfl) (fun _ _ _ h => h) (Or.inl ⟨by rfl, ?_⟩) hHeld ?_
      rotate_left
      · intro ww hSw
        (try dsimp only at hSw)
        go_simp
        (try with_reducible rfl)
      simp only [Act.put, List.setIfInBounds_toArray, List.set_cons_zero, List.set_cons_succ]
      refine wpAnyH_ready (rs := [1, 4]) (by kernel_rfl) (by simp) ?_
      refine AllReadyH.cons (o := ⟨some 27, _, _, _, _, _⟩) rfl (fun K hK => ?_) (AllReadyH.cons (o := ⟨some 30, _, _, _, _, _⟩) rfl (fun K hK => ?_) AllReadyH.nil)
      · skip
        have hcl := Has.cell (hB.out) 1 rfl
        go_simp
        refine hK.out _ _ trivial (fun hHeld => ?_)
        clear hK K
        (try simp only [Act.put, List.setIfInBounds_toArray, List.set_cons_zero, List.set_cons_succ])
        refine wpAnyH_ready (rs := [4]) (by kernel_rfl) (by simp) ?_
        refine AllReadyH.cons (o := ⟨some 30, _, _, _, _, _⟩) rfl (fun K hK => ?_) AllReadyH.nil
        go_simp
        go_at_call 34
        refine (HA0.out).mono ?_
        rintro e_r u_ ⟨rfl, rfl⟩
        go_wp2_with fail
        refine hK.out _ _ trivial (fun hHeld => ?_)
        clear hK K
        (try simp only [Act.put, List.setIfInBounds_toArray, List.set_cons_zero, List.set_cons_succ])
        refine wpAnyH_ready (rs := [8]) (by kernel_rfl) (by simp) ?_
        refine AllReadyH.cons (o := ⟨some 34, _, _, _, _, _⟩) rfl (fun K hK => ?_) AllReadyH.nil
        go_simp
        go_at_call 34
        refine (HA1.out).mono ?_
        rintro e_r u_ ⟨rfl, rfl⟩
        go_wp2_with fail
        refine hK.out _ _ trivial (fun hHeld => ?_)
        clear hK K
        (try simp only [Act.put, List.setIfInBounds_toArray, List.set_cons_zero, List.set_cons_succ])
        refine wpAnyH_ready (rs := [12]) (by kernel_rfl) (by simp) ?_
        refine AllReadyH.cons (o := ⟨some 38, _, _, _, _, _⟩) rfl (fun K hK => ?_) AllReadyH.nil
        go_simp
        go_at_call 34
        refine (HA2.out).mono ?_
        rintro e_r u_ ⟨rfl, rfl⟩
        go_wp2_with fail
        refine hK.out _ _ trivial (fun hHeld => ?_)
        clear hK K
        (try simp only [Act.put, List.setIfInBounds_toArray, List.set_cons_zero, List.set_cons_succ])
        refine wpAnyH_take (i := 13) (oi := ⟨some 39, _, _, _, _, _⟩) (v := ?_) rfl (by kernel_rfl) (by kernel_rfl) (by kernel_rfl) (fun _ _ _ h => h) (Or.inl ⟨by rfl, ?_⟩) hHeld ?_
        rotate_left
        · intro ww hSw
          (try dsimp only at hSw)
          go_simp
          (try with_reducible rfl)
        simp only [Act.put, List.setIfInBounds_toArray, List.set_cons_zero, List.set_cons_succ]
        refine wpAnyH_ready (rs := [14]) (by kernel_rfl) (by simp) ?_
        refine AllReadyH.cons (o := ⟨some 40, _, _, _, _, _⟩) rfl (fun K hK => ?_) AllReadyH.nil
        go_simp
        refine hK.out _ _ trivial (fun hHeld => ?_)
        clear hK K
        (try simp only [Act.put, List.setIfInBounds_toArray, List.set_cons_zero, List.set_cons_succ])
        refine wpAnyH_ready (rs := [15]) (by kernel_rfl) (by simp) ?_
        refine AllReadyH.cons (o := ⟨some 41, _, _, _, _, _⟩) rfl (fun K hK => ?_) AllReadyH.nil
        rw [if_pos (by rfl)]
        refine wp_append_run HR5.out rfl rfl rfl ?_
        refine hK.out _ _ trivial (fun hHeld => ?_)
        clear hK K
        (try simp only [Act.put, List.setIfInBounds_toArray, List.set_cons_zero, List.set_cons_succ])
        refine wpAnyH_take (i := 16) (oi := ⟨some 42, _, _, _, _, _⟩) (v := ?_) rfl (by kernel_rfl) (by kernel_rfl) (by kernel_rfl) (fun _ _ _ h => h) (Or.inl ⟨by rfl, ?_⟩) hHeld ?_
        rotate_left
        · intro ww hSw
          (try dsimp only at hSw)
          go_simp
          (try with_reducible rfl)
        simp only [Act.put, List.setIfInBounds_toArray, List.set_cons_zero, List.set_cons_succ]
        refine wpAnyH_ready (rs := [17]) (by kernel_rfl) (by simp) ?_
        refine AllReadyH.cons (o := ⟨none, _, _, _, _, _⟩) rfl (fun K hK => ?_) AllReadyH.nil
        have hcl := Has.cell HB5.out 1 rfl
        have hfz := Has.frozen HB5.out 1
        go_simp
        refine hK.out _ _ trivial (fun hHeld => ?_)
        clear hK K
        (try simp only [Act.put, List.setIfInBounds_toArray, List.set_cons_zero, List.set_cons_succ])
        refine wpAnyH_done (by kernel_rfl) ?_ _
        refine NoPanic.normal ?_
        clear HA0 HA1 HA2 HR5 hB hrow
        go_wp2
        go_roundw
        case rel => exact ⟨j + 1, p + 3, A5, c5, rows ++ [[x0, x1, x2]], by omega, by have := HP.out; omega, by go_num, by go_num, HRW, hrow5.set hBlt _, HB6, hK6⟩
        case measure => simp [intOf]; omega
      · skip
        go_simp
        go_at_call 34
        refine (HA0.out).mono ?_
        rintro e_r u_ ⟨rfl, rfl⟩
        go_wp2_with fail
        refine hK.out _ _ trivial (fun hHeld => ?_)
        clear hK K
        (try simp only [Act.put, List.setIfInBounds_toArray, List.set_cons_zero, List.set_cons_succ])
        refine wpAnyH_ready (rs := [1, 8]) (by kernel_rfl) (by simp) ?_
        refine AllReadyH.cons (o := ⟨some 27, _, _, _, _, _⟩) rfl (fun K hK => ?_) (AllReadyH.cons (o := ⟨some 34, _, _, _, _, _⟩) rfl (fun K hK => ?_) AllReadyH.nil)
        · skip
          have hcl := Has.cell (hB.out) 1 rfl
          go_simp
          refine hK.out _ _ trivial (fun hHeld => ?_)
          clear hK K
          (try simp only [Act.put, List.setIfInBounds_toArray, List.set_cons_zero, List.set_cons_succ])
          refine wpAnyH_ready (rs := [8]) (by kernel_rfl) (by simp) ?_
          refine AllReadyH.cons (o := ⟨some 34, _, _, _, _, _⟩) rfl (fun K hK => ?_) AllReadyH.nil
          go_simp
          go_at_call 34
          refine (HA1.out).mono ?_
          rintro e_r u_ ⟨rfl, rfl⟩
          go_wp2_with fail
          refine hK.out _ _ trivial (fun hHeld => ?_)
          clear hK K
          (try simp only [Act.put, List.setIfInBounds_toArray, List.set_cons_zero, List.set_cons_succ])
          refine wpAnyH_ready (rs := [12]) (by kernel_rfl) (by simp) ?_
          refine AllReadyH.cons (o := ⟨some 38, _, _, _, _, _⟩) rfl (fun K hK => ?_) AllReadyH.nil
          go_simp
          go_at_call 34
          refine (HA2.out).mono ?_
          rintro e_r u_ ⟨rfl, rfl⟩
          go_wp2_with fail
          refine hK.out _ _ trivial (fun hHeld => ?_)
          clear hK K
          (try simp only [Act.put, List.setIfInBounds_toArray, List.set_cons_zero, List.set_cons_succ])
          refine wpAnyH_take (i := 13) (oi := ⟨some 39, _, _, _, _, _⟩) (v := ?_) rfl (by kernel_rfl) (by kernel_rfl) (by kernel_rfl) (fun _ _ _ h => h) (Or.inl ⟨by rfl, ?_⟩) hHeld ?_
          rotate_left
          · intro ww hSw
            (try dsimp only at hSw)
            go_simp
            (try with_reducible rfl)
          simp only [Act.put, List.setIfInBounds_toArray, List.set_cons_zero, List.set_cons_succ]
          refine wpAnyH_ready (rs := [14]) (by kernel_rfl) (by simp) ?_
          refine AllReadyH.cons (o := ⟨some 40, _, _, _, _, _⟩) rfl (fun K hK => ?_) AllReadyH.nil
          go_simp
          refine hK.out _ _ trivial (fun hHeld => ?_)
          clear hK K
          (try simp only [Act.put, List.setIfInBounds_toArray, List.set_cons_zero, List.set_cons_succ])
          refine wpAnyH_ready (rs := [15]) (by kernel_rfl) (by simp) ?_
          refine AllReadyH.cons (o := ⟨some 41, _, _, _, _, _⟩) rfl (fun K hK => ?_) AllReadyH.nil
          rw [if_pos (by rfl)]
          refine wp_append_run HR5.out rfl rfl rfl ?_
          refine hK.out _ _ trivial (fun hHeld => ?_)
          clear hK K
          (try simp only [Act.put, List.setIfInBounds_toArray, List.set_cons_zero, List.set_cons_succ])
          refine wpAnyH_take (i := 16) (oi := ⟨some 42, _, _, _, _, _⟩) (v := ?_) rfl (by kernel_rfl) (by kernel_rfl) (by kernel_rfl) (fun _ _ _ h => h) (Or.inl ⟨by rfl, ?_⟩) hHeld ?_
          rotate_left
          · intro ww hSw
            (try dsimp only at hSw)
            go_simp
            (try with_reducible rfl)
          simp only [Act.put, List.setIfInBounds_toArray, List.set_cons_zero, List.set_cons_succ]
          refine wpAnyH_ready (rs := [17]) (by kernel_rfl) (by simp) ?_
          refine AllReadyH.cons (o := ⟨none, _, _, _, _, _⟩) rfl (fun K hK => ?_) AllReadyH.nil
          have hcl := Has.cell HB5.out 1 rfl
          have hfz := Has.frozen HB5.out 1
          go_simp
          refine hK.out _ _ trivial (fun hHeld => ?_)
          clear hK K
          (try simp only [Act.put, List.setIfInBounds_toArray, List.set_cons_zero, List.set_cons_succ])
          refine wpAnyH_done (by kernel_rfl) ?_ _
          refine NoPanic.normal ?_
          clear HA0 HA1 HA2 HR5 hB hrow
          go_wp2
          go_roundw
          case rel => exact ⟨j + 1, p + 3, A5, c5, rows ++ [[x0, x1, x2]], by omega, by have := HP.out; omega, by go_num, by go_num, HRW, hrow5.set hBlt _, HB6, hK6⟩
          case measure => simp [intOf]; omega
        · skip
          go_simp
          go_at_call 34
          refine (HA1.out).mono ?_
          rintro e_r u_ ⟨rfl, rfl⟩
          go_wp2_with fail
          refine hK.out _ _ trivial (fun hHeld => ?_)
          clear hK K
          (try simp only [Act.put, List.setIfInBounds_toArray, List.set_cons_zero, List.set_cons_succ])
          refine wpAnyH_ready (rs := [1, 12]) (by kernel_rfl) (by simp) ?_
          refine AllReadyH.cons (o := ⟨some 27, _, _, _, _, _⟩) rfl (fun K hK => ?_) (AllReadyH.cons (o := ⟨some 38, _, _, _, _, _⟩) rfl (fun K hK => ?_) AllReadyH.nil)
          · skip
            have hcl := Has.cell (hB.out) 1 rfl
            go_simp
            refine hK.out _ _ trivial (fun hHeld => ?_)
            clear hK K
            (try simp only [Act.put, List.setIfInBounds_toArray, List.set_cons_zero, List.set_cons_succ])
            refine wpAnyH_ready (rs := [12]) (by kernel_rfl) (by simp) ?_
            refine AllReadyH.cons (o := ⟨some 38, _, _, _, _, _⟩) rfl (fun K hK => ?_) AllReadyH.nil
            go_simp
            go_at_call 34
            refine (HA2.out).mono ?_
            rintro e_r u_ ⟨rfl, rfl⟩
            go_wp2_with fail
            refine hK.out _ _ trivial (fun hHeld => ?_)
            clear hK K
            (try simp only [Act.put, List.setIfInBounds_toArray, List.set_cons_zero, List.set_cons_succ])
            refine wpAnyH_take (i := 13) (oi := ⟨some 39, _, _, _, _, _⟩) (v := ?_) rfl (by kernel_rfl) (by kernel_rfl) (by kernel_rfl) (fun _ _ _ h => h) (Or.inl ⟨by rfl, ?_⟩) hHeld ?_
            rotate_left
            · intro ww hSw
              (try dsimp only at hSw)
              go_simp
              (try with_reducible rfl)
            simp only [Act.put, List.setIfInBounds_toArray, List.set_cons_zero, List.set_cons_succ]
            refine wpAnyH_ready (rs := [14]) (by kernel_rfl) (by simp) ?_
            refine AllReadyH.cons (o := ⟨some 40, _, _, _, _, _⟩) rfl (fun K hK => ?_) AllReadyH.nil
            go_simp
            refine hK.out _ _ trivial (fun hHeld => ?_)
            clear hK K
            (try simp only [Act.put, List.setIfInBounds_toArray, List.set_cons_zero, List.set_cons_succ])
            refine wpAnyH_ready (rs := [15]) (by kernel_rfl) (by simp) ?_
            refine AllReadyH.cons (o := ⟨some 41, _, _, _, _, _⟩) rfl (fun K hK => ?_) AllReadyH.nil
            rw [if_pos (by rfl)]
            refine wp_append_run HR5.out rfl rfl rfl ?_
            refine hK.out _ _ trivial (fun hHeld => ?_)
            clear hK K
            (try simp only [Act.put, List.setIfInBounds_toArray, List.set_cons_zero, List.set_cons_succ])
            refine wpAnyH_take (i := 16) (oi := ⟨some 42, _, _, _, _, _⟩) (v := ?_) rfl (by kernel_rfl) (by kernel_rfl) (by kernel_rfl) (fun _ _ _ h => h) (Or.inl ⟨by rfl, ?_⟩) hHeld ?_
            rotate_left
            · intro ww hSw
              (try dsimp only at hSw)
              go_simp
              (try with_reducible rfl)
            simp only [Act.put, List.setIfInBounds_toArray, List.set_cons_zero, List.set_cons_succ]
            refine wpAnyH_ready (rs := [17]) (by kernel_rfl) (by simp) ?_
            refine AllReadyH.cons (o := ⟨none, _, _, _, _, _⟩) rfl (fun K hK => ?_) AllReadyH.nil
            have hcl := Has.cell HB5.out 1 rfl
            have hfz := Has.frozen HB5.out 1
            go_simp
            refine hK.out _ _ trivial (fun hHeld => ?_)
            clear hK K
            (try simp only [Act.put, List.setIfInBounds_toArray, List.set_cons_zero, List.set_cons_succ])
            refine wpAnyH_done (by kernel_rfl) ?_ _
            refine NoPanic.normal ?_
            clear HA0 HA1 HA2 HR5 hB hrow
            go_wp2
            go_roundw
            case rel => exact ⟨j + 1, p + 3, A5, c5, rows ++ [[x0, x1, x2]], by omega, by have := HP.out; omega, by go_num, by go_num, HRW, hrow5.set hBlt _, HB6, hK6⟩
            case measure => simp [intOf]; omega
          · skip
            go_simp
            go_at_call 34
            refine (HA2.out).mono ?_
            rintro e_r u_ ⟨rfl, rfl⟩
            go_wp2_with fail
            refine hK.out _ _ trivial (fun hHeld => ?_)
            clear hK K
            (try simp only [Act.put, List.setIfInBounds_toArray, List.set_cons_zero, List.set_cons_succ])
            refine wpAnyH_take (i := 13) (oi := ⟨some 39, _, _, _, _, _⟩) (v := ?_) rfl (by kernel_rfl) (by kernel_rfl) (by kernel_rfl) (fun _ _ _ h => h) (Or.inl ⟨by rfl, ?_⟩) hHeld ?_
            rotate_left
            · intro ww hSw
              (try dsimp only at hSw)
              go_simp
              (try with_reducible rfl)
            simp only [Act.put, List.setIfInBounds_toArray, List.set_cons_zero, List.set_cons_succ]
            refine wpAnyH_ready (rs := [1, 14]) (by kernel_rfl) (by simp) ?_
            refine AllReadyH.cons (o := ⟨some 27, _, _, _, _, _⟩) rfl (fun K hK => ?_) (AllReadyH.cons (o := ⟨some 40, _, _, _, _, _⟩) rfl (fun K hK => ?_) AllReadyH.nil)
            · skip
              have hcl := Has.cell (hB.out) 1 rfl
              go_simp
              refine hK.out _ _ trivial (fun hHeld => ?_)
              clear hK K
              (try simp only [Act.put, List.setIfInBounds_toArray, List.set_cons_zero, List.set_cons_succ])
              refine wpAnyH_ready (rs := [14]) (by kernel_rfl) (by simp) ?_
              refine AllReadyH.cons (o := ⟨some 40, _, _, _, _, _⟩) rfl (fun K hK => ?_) AllReadyH.nil
              go_simp
              refine hK.out _ _ trivial (fun hHeld => ?_)
              clear hK K
              (try simp only [Act.put, List.setIfInBounds_toArray, List.set_cons_zero, List.set_cons_succ])
              refine wpAnyH_ready (rs := [15]) (by kernel_rfl) (by simp) ?_
              refine AllReadyH.cons (o := ⟨some 41, _, _, _, _, _⟩) rfl (fun K hK => ?_) AllReadyH.nil
              rw [if_pos (by rfl)]
              refine wp_append_run HR5.out rfl rfl rfl ?_
              refine hK.out _ _ trivial (fun hHeld => ?_)
              clear hK K
              (try simp only [Act.put, List.setIfInBounds_toArray, List.set_cons_zero, List.set_cons_succ])
              refine wpAnyH_take (i := 16) (oi := ⟨some 42, _, _, _, _, _⟩) (v := ?_) rfl (by kernel_rfl) (by kernel_rfl) (by kernel_rfl) (fun _ _ _ h => h) (Or.inl ⟨by rfl, ?_⟩) hHeld ?_
              rotate_left
              · intro ww hSw
                (try dsimp only at hSw)
                go_simp
                (try with_reducible rfl)
              simp only [Act.put, List.setIfInBounds_toArray, List.set_cons_zero, List.set_cons_succ]
              refine wpAnyH_ready (rs := [17]) (by kernel_rfl) (by simp) ?_
              refine AllReadyH.cons (o := ⟨none, _, _, _, _, _⟩) rfl (fun K hK => ?_) AllReadyH.nil
              have hcl := Has.cell HB5.out 1 rfl
              have hfz := Has.frozen HB5.out 1
              go_simp
              refine hK.out _ _ trivial (fun hHeld => ?_)
              clear hK K
              (try simp only [Act.put, List.setIfInBounds_toArray, List.set_cons_zero, List.set_cons_succ])
              refine wpAnyH_done (by kernel_rfl) ?_ _
              refine NoPanic.normal ?_
              clear HA0 HA1 HA2 HR5 hB hrow
              go_wp2
              go_roundw
              case rel => exact ⟨j + 1, p + 3, A5, c5, rows ++ [[x0, x1, x2]], by omega, by have := HP.out; omega, by go_num, by go_num, HRW, hrow5.set hBlt _, HB6, hK6⟩
              case measure => simp [intOf]; omega
            · skip
              go_simp
              refine hK.out _ _ trivial (fun hHeld => ?_)
              clear hK K
              (try simp only [Act.put, List.setIfInBounds_toArray, List.set_cons_zero, List.set_cons_succ])
              refine wpAnyH_ready (rs := [1]) (by kernel_rfl) (by simp) ?_
              refine AllReadyH.cons (o := ⟨some 27, _, _, _, _, _⟩) rfl (fun K hK => ?_) AllReadyH.nil
              have hcl := Has.cell ((hB.out).alloc (.cells #[.int .i64 x0, .int .i64 x1, .int .i64 x2] 55)) 1 rfl
              go_simp
              refine hK.out _ _ trivial (fun hHeld => ?_)
              clear hK K
              (try simp only [Act.put, List.setIfInBounds_toArray, List.set_cons_zero, List.set_cons_succ])
              refine wpAnyH_ready (rs := [15]) (by kernel_rfl) (by simp) ?_
              refine AllReadyH.cons (o := ⟨some 41, _, _, _, _, _⟩) rfl (fun K hK => ?_) AllReadyH.nil
              rw [if_pos (by rfl)]
              refine wp_append_run HR5.out rfl rfl rfl ?_
              refine hK.out _ _ trivial (fun hHeld => ?_)
              clear hK K
              (try simp only [Act.put, List.setIfInBounds_toArray, List.set_cons_zero, List.set_cons_succ])
              refine wpAnyH_take (i := 16) (oi := ⟨some 42, _, _, _, _, _⟩) (v := ?_) rfl (by kernel_rfl) (by kernel_rfl) (by kernel_rfl) (fun _ _ _ h => h) (Or.inl ⟨by rfl, ?_⟩) hHeld ?_
              rotate_left
              · intro ww hSw
                (try dsimp only at hSw)
                go_simp
                (try with_reducible rfl)
              simp only [Act.put, List.setIfInBounds_toArray, List.set_cons_zero, List.set_cons_succ]
              refine wpAnyH_ready (rs := [17]) (by kernel_rfl) (by simp) ?_
              refine AllReadyH.cons (o := ⟨none, _, _, _, _, _⟩) rfl (fun K hK => ?_) AllReadyH.nil
              have hcl := Has.cell HB5.out 1 rfl
              have hfz := Has.frozen HB5.out 1
              go_simp
              refine hK.out _ _ trivial (fun hHeld => ?_)
              clear hK K
              (try simp only [Act.put, List.setIfInBounds_toArray, List.set_cons_zero, List.set_cons_succ])
              refine wpAnyH_done (by kernel_rfl) ?_ _
              refine NoPanic.normal ?_
              clear HA0 HA1 HA2 HR5 hB hrow
              go_wp2
              go_roundw
              case rel => exact ⟨j + 1, p + 3, A5, c5, rows ++ [[x0, x1, x2]], by omega, by have := HP.out; omega, by go_num, by go_num, HRW, hrow5.set hBlt _, HB6, hK6⟩
              case measure => simp [intOf]; omega
    · obtain rfl : j = n1 := by omega
      have hrw1 := hrw
      have HP1 := HP
      have e0 : ¬ (j : Int) < (j : Int) := by omega
      obtain ⟨x, hx⟩ : ∃ x, atL L p = x := ⟨_, rfl⟩
      obtain ⟨y, hy⟩ : ∃ y, atL L (p + 1) = y := ⟨_, rfl⟩
      have HPT := Lib.hid (rpart_i (c := cl) (HNU.out wr hK0) HN.out (p : Int) p rfl (by have := HP.out; omega) x y hx hy)
      have hpb : p ≤ 400 := by have := HP.out; omega
      have hw3 : IntKind.i64.wrap ((p : Int) + 3) = (p : Int) + 3 := by rw [IntKind.wrap_i64]; omega
      have hw4 : IntKind.i64.wrap ((p : Int) + 3 - 1) = (p : Int) + 3 - 1 := by rw [IntKind.wrap_i64]; omega
      go_wp2_with fail
      refine HPT.out.mono ?_
      rintro e w2 ⟨rfl, b2⟩
      clear HPT
      replace hB := Lib.hid (hB.out.below b2)
      replace hrow := hrow.below b2
      replace hK0 := fb_below hK0 b2
      have r2 := Has.cell hB.out 2 rfl
      have r3 := Has.cell hB.out 3 rfl
      have f2 := Has.frozen hB.out 2
      have f3 := Has.frozen hB.out 3
      have hs := hB.out.size
      have hK1 := fb_set (fb_set hK0 2 (.int .i64 x)) 3 (.int .i64 y)
      have HB1 : Hid (Has ((w2.setCell ⟨B, 2, none⟩ (.int .i64 x)).setCell ⟨B, 3, none⟩ (.int .i64 y)) B #[.int .i64 (atL L 0), .slice A j c, .int .i64 x, .int .i64 y, .slice none 0 0, .slice none 0 0, .slice none 0 0, .int .i64 0, .int .i64 0, .int .i64 0, .int .i64 0, .int .i64 0, .int .i64 0, .int .i64 0, .int .i64 0, .int .i64 0, .int .i64 0, .int .i64 0, .slice none 0 0, .int .i64 0, .int .i64 0, .int .i64 0, .slice none 0 0]) := Lib.hid (by
        have h := Has.set (Has.set hB.out 2 (.int .i64 x)) 3 (.int .i64 y)
        simpa only [List.setIfInBounds_toArray, List.set_cons_zero, List.set_cons_succ] using h)
      have HR1 := Lib.hid ((hrow.set (p := ⟨B, 2, none⟩) hBlt (.int .i64 x)).set (p := ⟨B, 3, none⟩) hBlt (.int .i64 y))
      obtain ⟨n2, hn2⟩ : ∃ k, manyL L (p + 2) = k := ⟨_, rfl⟩
      have hm2 := many_le L (p + 2)
      rw [hn2] at hm2
      have HM2 := Lib.hid (rmany_i (c := cl) (HNU.out _ hK1) HN.out HPO.out ((p : Int) + 3 - 1) (p + 2) (by omega) (by omega) n2 hn2)
      have HN2 := Lib.hid hn2
      have HZX := Lib.hid (And.intro hx hy)
      clear hB hrow hK0 hx hy hn2 HM1
      go_wp2_with fail
      refine HM2.out.mono ?_
      rintro e u ⟨rfl, rfl⟩
      clear HM2 r2 r3 f2 f3 hs
      go_wp2_with fail
      obtain ⟨W1, hW1⟩ : ∃ W1, (w2.setCell ⟨B, 2, none⟩ (.int .i64 x)).setCell ⟨B, 3, none⟩ (.int .i64 y) = W1 := ⟨_, rfl⟩
      rw [hW1] at hK1 HB1 HR1
      rw [hW1]
      clear hW1
      have HKW := Lib.hid hK1
      have HT1 := Lib.hid HR1.out
      have hBlt1 : B < W1.heap.size := Nat.lt_of_lt_of_le hBlt hK1.size
      have HNU1 : Hid (∀ wx, Kept (FB W1 B) W1 wx → Nums wx Al L) := fun wx h => HNU.out wx (fb_on HKW.out h)
      obtain ⟨p2, hp2⟩ : ∃ p2, p + 3 = p2 := ⟨_, rfl⟩
      have ep2 : (p : Int) + 3 = (p2 : Int) := by omega
      rw [ep2]
      have hpb2 : p2 ≤ 403 := by omega
      have HP2 := Lib.hid hp2
      clear hp2 ep2 hw3 hw4 hK1 HR1 hpb
      have hstart2 : Hid (Has W1 B #[.int .i64 (atL L 0), .slice A j c, .int .i64 x, .int .i64 y, .slice none 0 0, .slice none 0 0, .slice none 0 0, .int .i64 0, .int .i64 0, .int .i64 0, .int .i64 0, .int .i64 0, .int .i64 0, .int .i64 0, .int .i64 0, .int .i64 0, .int .i64 0, .int .i64 0, .slice none 0 0, .int .i64 0, .int .i64 0, .int .i64 0, .slice none 0 0]) := HB1
      clear HB1
      go_loopw [6, 8] (fun vp vi wr => ∃ (i2 q : Nat) (A2 : Option Addr) (c2 : Nat) (rows2 : Rows2), i2 ≤ n2 ∧ Hid (q = p2 + 4 * i2) ∧ vp = .int .i64 (q : Int) ∧ vi = .int .i64 ((n2 - i2 : Nat) : Int) ∧ Hid (rows2 = rowsAt L p2 4 i2) ∧ TRow 72 4 wr W1.heap.size A2 i2 c2 rows2 ∧ Hid (Has wr B #[.int .i64 (atL L 0), .slice A j c, .int .i64 x, .int .i64 y, .slice A2 i2 c2, .slice none 0 0, .slice none 0 0, .int .i64 0, .int .i64 0, .int .i64 0, .int .i64 0, .int .i64 0, .int .i64 0, .int .i64 0, .int .i64 0, .int .i64 0, .int .i64 0, .int .i64 0, .slice none 0 0, .int .i64 0, .int .i64 0, .int .i64 0, .slice none 0 0]) ∧ Kept (FB W1 B) W1 wr) (fun _ vi _ => (intOf vi).toNat)
      case atStart => exact ⟨0, p2, none, 0, [], by omega, by show _ = _; omega, rfl, rfl, Lib.hid (by simp [rowsAt]), TRow.nil _ _, hstart2, Kept.refl _ _⟩
      case round => as_aux_lemma =>
        clear hstart2
        obtain ⟨i2, q, A2, c2, rows2, hi2, hq, rfl, rfl, hrw, hrow, hB, hK⟩ := hrel
        by_cases hlt : i2 < n2
        · have e0 : (0 : Int) < ((n2 - i2 : Nat) : Int) := by omega
          have hqb : q ≤ 803 := by have := hq.out; omega
          have hw2 : IntKind.i64.wrap ((q : Int) + 2) = (q : Int) + 2 := by rw [IntKind.wrap_i64]; omega
          have hw3 : IntKind.i64.wrap ((q : Int) + 4) = (q : Int) + 4 := by rw [IntKind.wrap_i64]; omega
          have hw1 : IntKind.i64.wrap (((n2 - i2 : Nat) : Int) - 1) = ((n2 - (i2 + 1) : Nat) : Int) := by rw [IntKind.wrap_i64]; omega
          have HRW : Hid (rows2 ++ [[atL L q, atL L (q + 1), atL L (q + 2), atL L (q + 3)]] = rowsAt L p2 4 (i2 + 1)) := by
            show _ = _
            rw [rowsAt_succ, hrw.out]
            have hp := hq.out
            subst hp
            simp [List.range_succ]
          obtain ⟨x0, hx0⟩ : ∃ x, atL L q = x := ⟨_, rfl⟩
          obtain ⟨x1, hx1⟩ : ∃ x, atL L (q + 1) = x := ⟨_, rfl⟩
          obtain ⟨x2, hx2⟩ : ∃ x, atL L (q + 2) = x := ⟨_, rfl⟩
          obtain ⟨x3, hx3⟩ : ∃ x, atL L (q + 3) = x := ⟨_, rfl⟩
          rw [hx0, hx1, hx2, hx3] at HRW
          have HA0 := Lib.hid (fun wx (h : Kept (FB W1 B) W1 wx) => rpart_i (c := cl) (HNU1.out wx h) HN.out (q : Int) q rfl (by omega) x0 x1 hx0 hx1)
          have HA2 := Lib.hid (fun wx (h : Kept (FB W1 B) W1 wx) => rpart_i (c := cl) (HNU1.out wx h) HN.out ((q : Int) + 2) (q + 2) (by omega) (by omega) x2 x3 hx2 hx3)
          clear hx0 hx1 hx2 hx3 hrw
          have hKd : Kept (FB W1 B) W1 wr.drew := ⟨hK.os, hK.tape, hK.output, hK.size, hK.block⟩
          have hBd : Hid (Has wr.drew B #[.int .i64 (atL L 0), .slice A j c, .int .i64 x, .int .i64 y, .slice A2 i2 c2, .slice none 0 0, .slice none 0 0, .int .i64 0, .int .i64 0, .int .i64 0, .int .i64 0, .int .i64 0, .int .i64 0, .int .i64 0, .int .i64 0, .int .i64 0, .int .i64 0, .int .i64 0, .slice none 0 0, .int .i64 0, .int .i64 0, .int .i64 0, .slice none 0 0]) := hB
          have hRd := Lib.hid hrow.drew
          clear hB hrow hK
          go_wp2_with fail
          refine wp_region_noPanic ?_
          refine wp_region_held_drew (S := fun _ => True) (by kernel_rfl) trivial (fun hHeld => ?_)
          refine wpAnyH_take (i := 0) (oi := ⟨some 59, _, _, _, _, _⟩) (v := ?_) rfl (by kernel_rfl) (by kernel_rfl) (by kernel_rfl) (fun _ _ _ h => h) (Or.inl ⟨by rfl, ?_⟩) hHeld ?_
          rotate_left
          · intro ww hSw
            (try dsimp only at hSw)
            go_simp
            (try with_reducible rfl)
          simp only [Act.put, List.setIfInBounds_toArray, List.set_cons_zero, List.set_cons_succ]
          refine wpAnyH_take (i := 2) (oi := ⟨some 61, _, _, _, _, _⟩) (v := ?_) rfl (by kernel_rfl) (by kernel_rfl) (by kernel_rfl) (fun _ _ _ h => h) (Or.inl ⟨by rfl, ?_⟩) hHeld ?_
          rotate_left
          · intro ww hSw
            (try dsimp only at hSw)
            go_simp
            (try with_reducible rfl)
          simp only [Act.put, List.setIfInBounds_toArray, List.set_cons_zero, List.set_cons_succ]
          refine wpAnyH_take (i := 3) (oi := ⟨some 62, _, _, _, _, _⟩) (v := ?_) rfl (by kernel_rfl) (by kernel_rfl) (by kernel_rfl) (fun _ _ _ h => h) (Or.inl ⟨by rfl, ?_⟩) hHeld ?_
          rotate_left
          · intro ww hSw
            (try dsimp only at hSw)
            go_simp
            (try with_reducible rfl)
          simp only [Act.put, List.setIfInBounds_toArray, List.set_cons_zero, List.set_cons_succ]
          refine wpAnyH_take (i := 5) (oi := ⟨some 64, _, _, _, _, _⟩) (v := ?_) rfl (by kernel_rfl) (by kernel_rfl) (by kernel_rfl) (fun _ _ _ h => h) (Or.inl ⟨by rfl, ?_⟩) hHeld ?_
          rotate_left
          · intro ww hSw
            (try dsimp only at hSw)
            go_simp
            (try with_reducible rfl)
          simp only [Act.put, List.setIfInBounds_toArray, List.set_cons_zero, List.set_cons_succ]
          refine wpAnyH_take (i := 6) (oi := ⟨some 65, _, _, _, _, _⟩) (v := ?_) rfl (by kernel_rfl) (by kernel_rfl) (by kernel_rfl) (fun _ _ _ h => h) (Or.inl ⟨by rfl, ?_⟩) hHeld ?_
          rotate_left
          · intro ww hSw
            (try dsimp only at hSw)
            go_simp
            (try with_reducible rfl)
          simp only [Act.put, List.setIfInBounds_toArray, List.set_cons_zero, List.set_cons_succ]
          refine wpAnyH_take (i := 7) (oi := ⟨some 66, _, _, _, _, _⟩) (v := ?_) rfl (by kernel_rfl) (by kernel_rfl) (by kernel_rfl) (fun _ _ _ h => h) (Or.inl ⟨by rfl, ?_⟩) hHeld ?_
          rotate_left
          · intro ww hSw
            (try dsimp only at hSw)
            go_simp
            (try with_reducible rfl)
          simp only [Act.put, List.setIfInBounds_toArray, List.set_cons_zero, List.set_cons_succ]
          refine wpAnyH_ready (rs := [1, 4]) (by kernel_rfl) (by simp) ?_
          refine AllReadyH.cons (o := ⟨some 60, _, _, _, _, _⟩) rfl (fun K hK => ?_) (AllReadyH.cons (o := ⟨some 63, _, _, _, _, _⟩) rfl (fun K hK => ?_) AllReadyH.nil)
          · skip
            have hcl := Has.cell (hBd.out) 4 rfl
            have hcs := cell_lt hcl
            go_simp
            refine hK.out _ _ trivial (fun hHeld => ?_)
            clear hK K
            (try simp only [Act.put, List.setIfInBounds_toArray, List.set_cons_zero, List.set_cons_succ])
            refine wpAnyH_ready (rs := [4]) (by kernel_rfl) (by simp) ?_
            refine AllReadyH.cons (o := ⟨some 63, _, _, _, _, _⟩) rfl (fun K hK => ?_) AllReadyH.nil
            go_simp
            go_at_call 36
            refine (HA0.out _ hKd).mono ?_
            rintro e_r w1a ⟨rfl, b1a⟩
            have hBa1 := Lib.hid (Has.below (hBd.out) b1a)
            have hRa1 := Lib.hid (TRow.below (hRd.out) b1a)
            have hKa1 := fb_below hKd b1a
            clear b1a
            go_wp2_with fail
            refine hK.out _ _ trivial (fun hHeld => ?_)
            clear hK K
            (try simp only [Act.put, List.setIfInBounds_toArray, List.set_cons_zero, List.set_cons_succ])
            refine wpAnyH_ready (rs := [8]) (by kernel_rfl) (by simp) ?_
            refine AllReadyH.cons (o := ⟨some 67, _, _, _, _, _⟩) rfl (fun K hK => ?_) AllReadyH.nil
            go_simp
            go_at_call 36
            refine (HA2.out _ hKa1).mono ?_
            rintro e_r w2a ⟨rfl, b2a⟩
            have hBa2 := Lib.hid (Has.below (hBa1.out) b2a)
            have hRa2 := Lib.hid (TRow.below (hRa1.out) b2a)
            have hKa2 := fb_below hKa1 b2a
            clear b2a
            go_wp2_with fail
            refine hK.out _ _ trivial (fun hHeld => ?_)
            clear hK K
            (try simp only [Act.put, List.setIfInBounds_toArray, List.set_cons_zero, List.set_cons_succ])
            refine wpAnyH_take (i := 9) (oi := ⟨some 68, _, _, _, _, _⟩) (v := ?_) rfl (by kernel_rfl) (by kernel_rfl) (by kernel_rfl) (fun _ _ _ h => h) (Or.inl ⟨by rfl, ?_⟩) hHeld ?_
            rotate_left
            · intro ww hSw
              (try dsimp only at hSw)
              go_simp
              (try with_reducible rfl)
            simp only [Act.put, List.setIfInBounds_toArray, List.set_cons_zero, List.set_cons_succ]
            refine wpAnyH_ready (rs := [10]) (by kernel_rfl) (by simp) ?_
            refine AllReadyH.cons (o := ⟨some 69, _, _, _, _, _⟩) rfl (fun K hK => ?_) AllReadyH.nil
            go_simp
            refine hK.out _ _ trivial (fun hHeld => ?_)
            clear hK K
            (try simp only [Act.put, List.setIfInBounds_toArray, List.set_cons_zero, List.set_cons_succ])
            refine wpAnyH_ready (rs := [11]) (by kernel_rfl) (by simp) ?_
            refine AllReadyH.cons (o := ⟨some 70, _, _, _, _, _⟩) rfl (fun K hK => ?_) AllReadyH.nil
            refine trow_lay (w := w2a) Try.underlying25 element_info rfl (by omega) (by omega) (hRa2.out) [x0, x1, x2, x3] rfl (by omega) (hKa2).size ?_
            intro A5 c5 w5 hr5 hrow5 hk5
            have HB5 := Lib.hid (Has.kept (hBa2.out) hBlt1 hk5)
            have HB6 : Hid (Has (w5.setCell ⟨B, 4, none⟩ (.slice A5 (i2 + 1) c5)) B #[.int .i64 (atL L 0), .slice A j c, .int .i64 x, .int .i64 y, .slice A5 (i2 + 1) c5, .slice none 0 0, .slice none 0 0, .int .i64 0, .int .i64 0, .int .i64 0, .int .i64 0, .int .i64 0, .int .i64 0, .int .i64 0, .int .i64 0, .int .i64 0, .int .i64 0, .int .i64 0, .slice none 0 0, .int .i64 0, .int .i64 0, .int .i64 0, .slice none 0 0]) := Lib.hid (by
              have h := Has.set HB5.out 4 (.slice A5 (i2 + 1) c5)
              simpa only [List.setIfInBounds_toArray, List.set_cons_zero, List.set_cons_succ] using h)
            have hK6 := fb_set (fb_low hKa2 hk5) 4 (.slice A5 (i2 + 1) c5)
            have HR5 := Lib.hid hr5
            clear hr5
            rw [if_pos (by rfl)]
            refine wp_append_run HR5.out rfl rfl rfl ?_
            refine hK.out _ _ trivial (fun hHeld => ?_)
            clear hK K
            (try simp only [Act.put, List.setIfInBounds_toArray, List.set_cons_zero, List.set_cons_succ])
            refine wpAnyH_take (i := 12) (oi := ⟨some 71, _, _, _, _, _⟩) (v := ?_) rfl (by kernel_rfl) (by kernel_rfl) (by kernel_rfl) (fun _ _ _ h => h) (Or.inl ⟨by rfl, ?_⟩) hHeld ?_
            rotate_left
            · intro ww hSw
              (try dsimp only at hSw)
              go_simp
              (try with_reducible rfl)
            simp only [Act.put, List.setIfInBounds_toArray, List.set_cons_zero, List.set_cons_succ]
            refine wpAnyH_ready (rs := [13]) (by kernel_rfl) (by simp) ?_
            refine AllReadyH.cons (o := ⟨none, _, _, _, _, _⟩) rfl (fun K hK => ?_) AllReadyH.nil
            have hcl := Has.cell HB5.out 4 rfl
            have hfz := Has.frozen HB5.out 4
            have hcs := cell_lt hcl
            go_simp
            refine hK.out _ _ trivial (fun hHeld => ?_)
            clear hK K
            (try simp only [Act.put, List.setIfInBounds_toArray, List.set_cons_zero, List.set_cons_succ])
            refine wpAnyH_done (by kernel_rfl) ?_ _
            refine NoPanic.normal ?_
            go_wp2
            go_roundw
            case rel => exact ⟨i2 + 1, q + 4, A5, c5, _, by omega, by have := hq.out; show _ = _; omega, by go_num, by go_num, HRW, hrow5.set hBlt1 _, HB6, hK6⟩
            case measure => simp [intOf]; omega
          · skip
            go_simp
            go_at_call 36
            refine (HA0.out _ hKd).mono ?_
            rintro e_r w4a ⟨rfl, b4a⟩
            have hBa4 := Lib.hid (Has.below (hBd.out) b4a)
            have hRa4 := Lib.hid (TRow.below (hRd.out) b4a)
            have hKa4 := fb_below hKd b4a
            clear b4a
            go_wp2_with fail
            refine hK.out _ _ trivial (fun hHeld => ?_)
            clear hK K
            (try simp only [Act.put, List.setIfInBounds_toArray, List.set_cons_zero, List.set_cons_succ])
            refine wpAnyH_ready (rs := [1, 8]) (by kernel_rfl) (by simp) ?_
            refine AllReadyH.cons (o := ⟨some 60, _, _, _, _, _⟩) rfl (fun K hK => ?_) (AllReadyH.cons (o := ⟨some 67, _, _, _, _, _⟩) rfl (fun K hK => ?_) AllReadyH.nil)
            · skip
              have hcl := Has.cell (hBa4.out) 4 rfl
              have hcs := cell_lt hcl
              go_simp
              refine hK.out _ _ trivial (fun hHeld => ?_)
              clear hK K
              (try simp only [Act.put, List.setIfInBounds_toArray, List.set_cons_zero, List.set_cons_succ])
              refine wpAnyH_ready (rs := [8]) (by kernel_rfl) (by simp) ?_
              refine AllReadyH.cons (o := ⟨some 67, _, _, _, _, _⟩) rfl (fun K hK => ?_) AllReadyH.nil
              go_simp
              go_at_call 36
              refine (HA2.out _ hKa4).mono ?_
              rintro e_r w5a ⟨rfl, b5a⟩
              have hBa5 := Lib.hid (Has.below (hBa4.out) b5a)
              have hRa5 := Lib.hid (TRow.below (hRa4.out) b5a)
              have hKa5 := fb_below hKa4 b5a
              clear b5a
              go_wp2_with fail
              refine hK.out _ _ trivial (fun hHeld => ?_)
              clear hK K
              (try simp only [Act.put, List.setIfInBounds_toArray, List.set_cons_zero, List.set_cons_succ])
              refine wpAnyH_take (i := 9) (oi := ⟨some 68, _, _, _, _, _⟩) (v := ?_) rfl (by kernel_rfl) (by kernel_rfl) (by kernel_rfl) (fun _ _ _ h => h) (Or.inl ⟨by rfl, ?_⟩) hHeld ?_
              rotate_left
              · intro ww hSw
                (try dsimp only at hSw)
                go_simp
                (try with_reducible rfl)
              simp only [Act.put, List.setIfInBounds_toArray, List.set_cons_zero, List.set_cons_succ]
              refine wpAnyH_ready (rs := [10]) (by kernel_rfl) (by simp) ?_
              refine AllReadyH.cons (o := ⟨some 69, _, _, _, _, _⟩) rfl (fun K hK => ?_) AllReadyH.nil
              go_simp
              refine hK.out _ _ trivial (fun hHeld => ?_)
              clear hK K
              (try simp only [Act.put, List.setIfInBounds_toArray, List.set_cons_zero, List.set_cons_succ])
              refine wpAnyH_ready (rs := [11]) (by kernel_rfl) (by simp) ?_
              refine AllReadyH.cons (o := ⟨some 70, _, _, _, _, _⟩) rfl (fun K hK => ?_) AllReadyH.nil
              refine trow_lay (w := w5a) Try.underlying25 element_info rfl (by omega) (by omega) (hRa5.out) [x0, x1, x2, x3] rfl (by omega) (hKa5).size ?_
              intro A5 c5 w5 hr5 hrow5 hk5
              have HB5 := Lib.hid (Has.kept (hBa5.out) hBlt1 hk5)
              have HB6 : Hid (Has (w5.setCell ⟨B, 4, none⟩ (.slice A5 (i2 + 1) c5)) B #[.int .i64 (atL L 0), .slice A j c, .int .i64 x, .int .i64 y, .slice A5 (i2 + 1) c5, .slice none 0 0, .slice none 0 0, .int .i64 0, .int .i64 0, .int .i64 0, .int .i64 0, .int .i64 0, .int .i64 0, .int .i64 0, .int .i64 0, .int .i64 0, .int .i64 0, .int .i64 0, .slice none 0 0, .int .i64 0, .int .i64 0, .int .i64 0, .slice none 0 0]) := Lib.hid (by
                have h := Has.set HB5.out 4 (.slice A5 (i2 + 1) c5)
                simpa only [List.setIfInBounds_toArray, List.set_cons_zero, List.set_cons_succ] using h)
              have hK6 := fb_set (fb_low hKa5 hk5) 4 (.slice A5 (i2 + 1) c5)
              have HR5 := Lib.hid hr5
              clear hr5
              rw [if_pos (by rfl)]
              refine wp_append_run HR5.out rfl rfl rfl ?_
              refine hK.out _ _ trivial (fun hHeld => ?_)
              clear hK K
              (try simp only [Act.put, List.setIfInBounds_toArray, List.set_cons_zero, List.set_cons_succ])
              refine wpAnyH_take (i := 12) (oi := ⟨some 71, _, _, _, _, _⟩) (v := ?_) rfl (by kernel_rfl) (by kernel_rfl) (by kernel_rfl) (fun _ _ _ h => h) (Or.inl ⟨by rfl, ?_⟩) hHeld ?_
              rotate_left
              · intro ww hSw
                (try dsimp only at hSw)
                go_simp
                (try with_reducible rfl)
              simp only [Act.put, List.setIfInBounds_toArray, List.set_cons_zero, List.set_cons_succ]
              refine wpAnyH_ready (rs := [13]) (by kernel_rfl) (by simp) ?_
              refine AllReadyH.cons (o := ⟨none, _, _, _, _, _⟩) rfl (fun K hK => ?_) AllReadyH.nil
              have hcl := Has.cell HB5.out 4 rfl
              have hfz := Has.frozen HB5.out 4
              have hcs := cell_lt hcl
              go_simp
              refine hK.out _ _ trivial (fun hHeld => ?_)
              clear hK K
              (try simp only [Act.put, List.setIfInBounds_toArray, List.set_cons_zero, List.set_cons_succ])
              refine wpAnyH_done (by kernel_rfl) ?_ _
              refine NoPanic.normal ?_
              go_wp2
              go_roundw
              case rel => exact ⟨i2 + 1, q + 4, A5, c5, _, by omega, by have := hq.out; show _ = _; omega, by go_num, by go_num, HRW, hrow5.set hBlt1 _, HB6, hK6⟩
              case measure => simp [intOf]; omega
            · skip
              go_simp
              go_at_call 36
              refine (HA2.out _ hKa4).mono ?_
              rintro e_r w7a ⟨rfl, b7a⟩
              have hBa7 := Lib.hid (Has.below (hBa4.out) b7a)
              have hRa7 := Lib.hid (TRow.below (hRa4.out) b7a)
              have hKa7 := fb_below hKa4 b7a
              clear b7a
              go_wp2_with fail
              refine hK.out _ _ trivial (fun hHeld => ?_)
              clear hK K
              (try simp only [Act.put, List.setIfInBounds_toArray, List.set_cons_zero, List.set_cons_succ])
              refine wpAnyH_take (i := 9) (oi := ⟨some 68, _, _, _, _, _⟩) (v := ?_) rfl (by kernel_rfl) (by kernel_rfl) (by kernel_rfl) (fun _ _ _ h => h) (Or.inl ⟨by rfl, ?_⟩) hHeld ?_
              rotate_left
              · intro ww hSw
                (try dsimp only at hSw)
                go_simp
                (try with_reducible rfl)
              simp only [Act.put, List.setIfInBounds_toArray, List.set_cons_zero, List.set_cons_succ]
              refine wpAnyH_ready (rs := [1, 10]) (by kernel_rfl) (by simp) ?_
              refine AllReadyH.cons (o := ⟨some 60, _, _, _, _, _⟩) rfl (fun K hK => ?_) (AllReadyH.cons (o := ⟨some 69, _, _, _, _, _⟩) rfl (fun K hK => ?_) AllReadyH.nil)
              · skip
                have hcl := Has.cell (hBa7.out) 4 rfl
                have hcs := cell_lt hcl
                go_simp
                refine hK.out _ _ trivial (fun hHeld => ?_)
                clear hK K
                (try simp only [Act.put, List.setIfInBounds_toArray, List.set_cons_zero, List.set_cons_succ])
                refine wpAnyH_ready (rs := [10]) (by kernel_rfl) (by simp) ?_
                refine AllReadyH.cons (o := ⟨some 69, _, _, _, _, _⟩) rfl (fun K hK => ?_) AllReadyH.nil
                go_simp
                refine hK.out _ _ trivial (fun hHeld => ?_)
                clear hK K
                (try simp only [Act.put, List.setIfInBounds_toArray, List.set_cons_zero, List.set_cons_succ])
                refine wpAnyH_ready (rs := [11]) (by kernel_rfl) (by simp) ?_
                refine AllReadyH.cons (o := ⟨some 70, _, _, _, _, _⟩) rfl (fun K hK => ?_) AllReadyH.nil
                refine trow_lay (w := w7a) Try.underlying25 element_info rfl (by omega) (by omega) (hRa7.out) [x0, x1, x2, x3] rfl (by omega) (hKa7).size ?_
                intro A5 c5 w5 hr5 hrow5 hk5
                have HB5 := Lib.hid (Has.kept (hBa7.out) hBlt1 hk5)
                have HB6 : Hid (Has (w5.setCell ⟨B, 4, none⟩ (.slice A5 (i2 + 1) c5)) B #[.int .i64 (atL L 0), .slice A j c, .int .i64 x, .int .i64 y, .slice A5 (i2 + 1) c5, .slice none 0 0, .slice none 0 0, .int .i64 0, .int .i64 0, .int .i64 0, .int .i64 0, .int .i64 0, .int .i64 0, .int .i64 0, .int .i64 0, .int .i64 0, .int .i64 0, .int .i64 0, .slice none 0 0, .int .i64 0, .int .i64 0, .int .i64 0, .slice none 0 0]) := Lib.hid (by
                  have h := Has.set HB5.out 4 (.slice A5 (i2 + 1) c5)
                  simpa only [List.setIfInBounds_toArray, List.set_cons_zero, List.set_cons_succ] using h)
                have hK6 := fb_set (fb_low hKa7 hk5) 4 (.slice A5 (i2 + 1) c5)
                have HR5 := Lib.hid hr5
                clear hr5
                rw [if_pos (by rfl)]
                refine wp_append_run HR5.out rfl rfl rfl ?_
                refine hK.out _ _ trivial (fun hHeld => ?_)
                clear hK K
                (try simp only [Act.put, List.setIfInBounds_toArray, List.set_cons_zero, List.set_cons_succ])
                refine wpAnyH_take (i := 12) (oi := ⟨some 71, _, _, _, _, _⟩) (v := ?_) rfl (by kernel_rfl) (by kernel_rfl) (by kernel_rfl) (fun _ _ _ h => h) (Or.inl ⟨by rfl, ?_⟩) hHeld ?_
                rotate_left
                · intro ww hSw
                  (try dsimp only at hSw)
                  go_simp
                  (try with_reducible rfl)
                simp only [Act.put, List.setIfInBounds_toArray, List.set_cons_zero, List.set_cons_succ]
                refine wpAnyH_ready (rs := [13]) (by kernel_rfl) (by simp) ?_
                refine AllReadyH.cons (o := ⟨none, _, _, _, _, _⟩) rfl (fun K hK => ?_) AllReadyH.nil
                have hcl := Has.cell HB5.out 4 rfl
                have hfz := Has.frozen HB5.out 4
                have hcs := cell_lt hcl
                go_simp
                refine hK.out _ _ trivial (fun hHeld => ?_)
                clear hK K
                (try simp only [Act.put, List.setIfInBounds_toArray, List.set_cons_zero, List.set_cons_succ])
                refine wpAnyH_done (by kernel_rfl) ?_ _
                refine NoPanic.normal ?_
                go_wp2
                go_roundw
                case rel => exact ⟨i2 + 1, q + 4, A5, c5, _, by omega, by have := hq.out; show _ = _; omega, by go_num, by go_num, HRW, hrow5.set hBlt1 _, HB6, hK6⟩
                case measure => simp [intOf]; omega
              · skip
                go_simp
                refine hK.out _ _ trivial (fun hHeld => ?_)
                clear hK K
                (try simp only [Act.put, List.setIfInBounds_toArray, List.set_cons_zero, List.set_cons_succ])
                refine wpAnyH_ready (rs := [1]) (by kernel_rfl) (by simp) ?_
                refine AllReadyH.cons (o := ⟨some 60, _, _, _, _, _⟩) rfl (fun K hK => ?_) AllReadyH.nil
                have hcl := Has.cell (hBa7.out) 4 rfl
                have hcs := cell_lt hcl
                go_simp
                refine hK.out _ _ trivial (fun hHeld => ?_)
                clear hK K
                (try simp only [Act.put, List.setIfInBounds_toArray, List.set_cons_zero, List.set_cons_succ])
                refine wpAnyH_ready (rs := [11]) (by kernel_rfl) (by simp) ?_
                refine AllReadyH.cons (o := ⟨some 70, _, _, _, _, _⟩) rfl (fun K hK => ?_) AllReadyH.nil
                refine trow_lay (w := w7a) Try.underlying25 element_info rfl (by omega) (by omega) (hRa7.out) [x0, x1, x2, x3] rfl (by omega) (hKa7).size ?_
                intro A5 c5 w5 hr5 hrow5 hk5
                have HB5 := Lib.hid (Has.kept (hBa7.out) hBlt1 hk5)
                have HB6 : Hid (Has (w5.setCell ⟨B, 4, none⟩ (.slice A5 (i2 + 1) c5)) B #[.int .i64 (atL L 0), .slice A j c, .int .i64 x, .int .i64 y, .slice A5 (i2 + 1) c5, .slice none 0 0, .slice none 0 0, .int .i64 0, .int .i64 0, .int .i64 0, .int .i64 0, .int .i64 0, .int .i64 0, .int .i64 0, .int .i64 0, .int .i64 0, .int .i64 0, .int .i64 0, .slice none 0 0, .int .i64 0, .int .i64 0, .int .i64 0, .slice none 0 0]) := Lib.hid (by
                  have h := Has.set HB5.out 4 (.slice A5 (i2 + 1) c5)
                  simpa only [List.setIfInBounds_toArray, List.set_cons_zero, List.set_cons_succ] using h)
                have hK6 := fb_set (fb_low hKa7 hk5) 4 (.slice A5 (i2 + 1) c5)
                have HR5 := Lib.hid hr5
                clear hr5
                rw [if_pos (by rfl)]
                refine wp_append_run HR5.out rfl rfl rfl ?_
                refine hK.out _ _ trivial (fun hHeld => ?_)
                clear hK K
                (try simp only [Act.put, List.setIfInBounds_toArray, List.set_cons_zero, List.set_cons_succ])
                refine wpAnyH_take (i := 12) (oi := ⟨some 71, _, _, _, _, _⟩) (v := ?_) rfl (by kernel_rfl) (by kernel_rfl) (by kernel_rfl) (fun _ _ _ h => h) (Or.inl ⟨by rfl, ?_⟩) hHeld ?_
                rotate_left
                · intro ww hSw
                  (try dsimp only at hSw)
                  go_simp
                  (try with_reducible rfl)
                simp only [Act.put, List.setIfInBounds_toArray, List.set_cons_zero, List.set_cons_succ]
                refine wpAnyH_ready (rs := [13]) (by kernel_rfl) (by simp) ?_
                refine AllReadyH.cons (o := ⟨none, _, _, _, _, _⟩) rfl (fun K hK => ?_) AllReadyH.nil
                have hcl := Has.cell HB5.out 4 rfl
                have hfz := Has.frozen HB5.out 4
                have hcs := cell_lt hcl
                go_simp
                refine hK.out _ _ trivial (fun hHeld => ?_)
                clear hK K
                (try simp only [Act.put, List.setIfInBounds_toArray, List.set_cons_zero, List.set_cons_succ])
                refine wpAnyH_done (by kernel_rfl) ?_ _
                refine NoPanic.normal ?_
                go_wp2
                go_roundw
                case rel => exact ⟨i2 + 1, q + 4, A5, c5, _, by omega, by have := hq.out; show _ = _; omega, by go_num, by go_num, HRW, hrow5.set hBlt1 _, HB6, hK6⟩
                case measure => simp [intOf]; omega
        · obtain rfl : i2 = n2 := by omega
          have e0 : ¬ (0 : Int) < ((i2 - i2 : Nat) : Int) := by omega
          have HT1k := TRow.keep HT1.out (w' := wr) (fun g hg => hK.block g.block ⟨(TRow.lt HT1.out g hg).2, by have h1 := (TRow.lt HT1.out g hg).1; omega⟩)
          clear HT1
          have HT1 := Lib.hid HT1k
          clear HT1k
          have HT2 := Lib.hid hrow
          have hrw2 := hrw
          have hKw : Kept (FB W0 B) W0 wr := fb_on HKW.out hK
          have hqb : q ≤ 403 + 400 * 3 := by have := hq.out; omega
          have hq2 := hq
          obtain ⟨W3, rfl⟩ : ∃ W' : World, W' = wr := ⟨_, rfl⟩
          have hw1 : IntKind.i64.wrap ((q : Int) + 1) = (q : Int) + 1 := by rw [IntKind.wrap_i64]; omega
          have hw2 : IntKind.i64.wrap ((q : Int) + 1 - 1) = (q : Int) + 1 - 1 := by rw [IntKind.wrap_i64]; omega
          obtain ⟨n3, hn3⟩ : ∃ k, manyL L q = k := ⟨_, rfl⟩
          have hm3 := many_le L q
          rw [hn3] at hm3
          have HM := Lib.hid (rmany_i (c := cl) (HNU.out _ hKw) HN.out HPO.out (q : Int) q rfl (by omega) n3 hn3)
          have HN3 := Lib.hid hn3
          clear hn3
          go_wp2_with fail
          refine HM.out.mono ?_
          rintro e u ⟨rfl, rfl⟩
          clear HM
          go_wp2_with fail
          have hBlt3 : B < W3.heap.size := Nat.lt_of_lt_of_le hBlt hKw.size
          clear HKW
          have HKW := Lib.hid hKw
          have HNU3 : Hid (∀ wx, Kept (FB W3 B) W3 wx → Nums wx Al L) := fun wx h => HNU.out wx (fb_on HKW.out h)
          obtain ⟨p3, hp3⟩ : ∃ p', q + 1 = p' := ⟨_, rfl⟩
          have ep3 : (q : Int) + 1 = (p3 : Int) := by omega
          rw [ep3]
          have hpb3 : p3 ≤ 404 + 400 * 3 := by omega
          have HP3 := Lib.hid hp3
          clear hp3 ep3 hw1 hw2 hKw hK hrow hrw hq hqb
          have HSt := hB
          clear hB
          go_loopw [6, 9] (fun vp vi wr => ∃ (i3 q3 : Nat) (A3 : Option Addr) (c3 : Nat) (rows3 : Rows2), i3 ≤ n3 ∧ Hid (q3 = p3 + 2 * i3) ∧ vp = .int .i64 (q3 : Int) ∧ vi = .int .i64 ((n3 - i3 : Nat) : Int) ∧ Hid (rows3 = rowsAt L p3 2 i3) ∧ TRow 24 2 wr W3.heap.size A3 i3 c3 rows3 ∧ Hid (Has wr B #[.int .i64 (atL L 0), .slice A j c, .int .i64 x, .int .i64 y, .slice A2 i2 c2, .slice A3 i3 c3, .slice none 0 0, .int .i64 0, .int .i64 0, .int .i64 0, .int .i64 0, .int .i64 0, .int .i64 0, .int .i64 0, .int .i64 0, .int .i64 0, .int .i64 0, .int .i64 0, .slice none 0 0, .int .i64 0, .int .i64 0, .int .i64 0, .slice none 0 0]) ∧ Kept (FB W3 B) W3 wr) (fun _ vi _ => (intOf vi).toNat)
          case atStart => exact ⟨0, p3, none, 0, [], by omega, by show _ = _; omega, rfl, rfl, Lib.hid (by simp [rowsAt]), TRow.nil _ _, HSt, Kept.refl _ _⟩
          case round => as_aux_lemma =>
            clear HSt
            obtain ⟨i3, q3, A3, c3, rows3, hi3, hq, rfl, rfl, hrw, hrow, hB, hK⟩ := hrel
            by_cases hlt : i3 < n3
            · have e0 : (0 : Int) < ((n3 - i3 : Nat) : Int) := by omega
              have hqb : q3 ≤ 604 + 400 * 3 := by have := hq.out; omega
              have hw3 : IntKind.i64.wrap ((q3 : Int) + 2) = (q3 : Int) + 2 := by rw [IntKind.wrap_i64]; omega
              have hw1 : IntKind.i64.wrap (((n3 - i3 : Nat) : Int) - 1) = ((n3 - (i3 + 1) : Nat) : Int) := by rw [IntKind.wrap_i64]; omega
              have HRW : Hid (rows3 ++ [[atL L q3, atL L (q3 + 1)]] = rowsAt L p3 2 (i3 + 1)) := by
                show _ = _
                rw [rowsAt_succ, hrw.out]
                have hp := hq.out
                subst hp
                simp [List.range_succ]
              obtain ⟨x0, hx0⟩ : ∃ x, atL L q3 = x := ⟨_, rfl⟩
              obtain ⟨x1, hx1⟩ : ∃ x, atL L (q3 + 1) = x := ⟨_, rfl⟩
              rw [hx0, hx1] at HRW
              have HA0 := Lib.hid (fun wx (h : Kept (FB W3 B) W3 wx) => rpart_i (c := cl) (HNU3.out wx h) HN.out (q3 : Int) q3 rfl (by omega) x0 x1 hx0 hx1)
              clear hx0 hx1 hrw
              have hKd : Kept (FB W3 B) W3 wr.drew := ⟨hK.os, hK.tape, hK.output, hK.size, hK.block⟩
              have hBd : Hid (Has wr.drew B #[.int .i64 (atL L 0), .slice A j c, .int .i64 x, .int .i64 y, .slice A2 i2 c2, .slice A3 i3 c3, .slice none 0 0, .int .i64 0, .int .i64 0, .int .i64 0, .int .i64 0, .int .i64 0, .int .i64 0, .int .i64 0, .int .i64 0, .int .i64 0, .int .i64 0, .int .i64 0, .slice none 0 0, .int .i64 0, .int .i64 0, .int .i64 0, .slice none 0 0]) := hB
              have hRd := Lib.hid hrow.drew
              clear hB hrow hK
              go_wp2_with fail
              refine wp_region_noPanic ?_
              refine wp_region_held_drew (S := fun _ => True) (by kernel_rfl) trivial (fun hHeld => ?_)
              refine wpAnyH_take (i := 0) (oi := ⟨some 84, _, _, _, _, _⟩) (v := ?_) rfl (by kernel_rfl) (by kernel_rfl) (by kernel_rfl) (fun _ _ _ h => h) (Or.inl ⟨by rfl, ?_⟩) hHeld ?_
              rotate_left
              · intro ww hSw
                (try dsimp only at hSw)
                go_simp
                (try with_reducible rfl)
              simp only [Act.put, List.setIfInBounds_toArray, List.set_cons_zero, List.set_cons_succ]
              refine wpAnyH_take (i := 2) (oi := ⟨some 86, _, _, _, _, _⟩) (v := ?_) rfl (by kernel_rfl) (by kernel_rfl) (by kernel_rfl) (fun _ _ _ h => h) (Or.inl ⟨by rfl, ?_⟩) hHeld ?_
              rotate_left
              · intro ww hSw
                (try dsimp only at hSw)
                go_simp
                (try with_reducible rfl)
              simp only [Act.put, List.setIfInBounds_toArray, List.set_cons_zero, List.set_cons_succ]
              refine wpAnyH_take (i := 3) (oi := ⟨some 87, _, _, _, _, _⟩) (v := ?_) rfl (by kernel_rfl) (by kernel_rfl) (by kernel_rfl) (fun _ _ _ h => h) (Or.inl ⟨by rfl, ?_⟩) hHeld ?_
              rotate_left
              · intro ww hSw
                (try dsimp only at hSw)
                go_simp
                (try with_reducible rfl)
              simp only [Act.put, List.setIfInBounds_toArray, List.set_cons_zero, List.set_cons_succ]
              refine wpAnyH_ready (rs := [1, 4]) (by kernel_rfl) (by simp) ?_
              refine AllReadyH.cons (o := ⟨some 85, _, _, _, _, _⟩) rfl (fun K hK => ?_) (AllReadyH.cons (o := ⟨some 88, _, _, _, _, _⟩) rfl (fun K hK => ?_) AllReadyH.nil)
              · skip
                have hcl := Has.cell (hBd.out) 5 rfl
                have hcs := cell_lt hcl
                go_simp
                refine hK.out _ _ trivial (fun hHeld => ?_)
                clear hK K
                (try simp only [Act.put, List.setIfInBounds_toArray, List.set_cons_zero, List.set_cons_succ])
                refine wpAnyH_ready (rs := [4]) (by kernel_rfl) (by simp) ?_
                refine AllReadyH.cons (o := ⟨some 88, _, _, _, _, _⟩) rfl (fun K hK => ?_) AllReadyH.nil
                go_simp
                go_at_call 36
                refine (HA0.out _ hKd).mono ?_
                rintro e_r w10a ⟨rfl, b10a⟩
                have hBa10 := Lib.hid (Has.below (hBd.out) b10a)
                have hRa10 := Lib.hid (TRow.below (hRd.out) b10a)
                have hKa10 := fb_below hKd b10a
                clear b10a
                go_wp2_with fail
                refine hK.out _ _ trivial (fun hHeld => ?_)
                clear hK K
                (try simp only [Act.put, List.setIfInBounds_toArray, List.set_cons_zero, List.set_cons_succ])
                refine wpAnyH_ready (rs := [5]) (by kernel_rfl) (by simp) ?_
                refine AllReadyH.cons (o := ⟨some 89, _, _, _, _, _⟩) rfl (fun K hK => ?_) AllReadyH.nil
                go_simp
                refine hK.out _ _ trivial (fun hHeld => ?_)
                clear hK K
                (try simp only [Act.put, List.setIfInBounds_toArray, List.set_cons_zero, List.set_cons_succ])
                refine wpAnyH_ready (rs := [6]) (by kernel_rfl) (by simp) ?_
                refine AllReadyH.cons (o := ⟨some 90, _, _, _, _, _⟩) rfl (fun K hK => ?_) AllReadyH.nil
                refine trow_lay (w := w10a) Try.underlying26 ratio_info rfl (by omega) (by omega) (hRa10.out) [x0, x1] rfl (by omega) (hKa10).size ?_
                intro A5 c5 w5 hr5 hrow5 hk5
                have HB5 := Lib.hid (Has.kept (hBa10.out) hBlt3 hk5)
                have HB6 : Hid (Has (w5.setCell ⟨B, 5, none⟩ (.slice A5 (i3 + 1) c5)) B #[.int .i64 (atL L 0), .slice A j c, .int .i64 x, .int .i64 y, .slice A2 i2 c2, .slice A5 (i3 + 1) c5, .slice none 0 0, .int .i64 0, .int .i64 0, .int .i64 0, .int .i64 0, .int .i64 0, .int .i64 0, .int .i64 0, .int .i64 0, .int .i64 0, .int .i64 0, .int .i64 0, .slice none 0 0, .int .i64 0, .int .i64 0, .int .i64 0, .slice none 0 0]) := Lib.hid (by
                  have h := Has.set HB5.out 5 (.slice A5 (i3 + 1) c5)
                  simpa only [List.setIfInBounds_toArray, List.set_cons_zero, List.set_cons_succ] using h)
                have hK6 := fb_set (fb_low hKa10 hk5) 5 (.slice A5 (i3 + 1) c5)
                have HR5 := Lib.hid hr5
                clear hr5
                rw [if_pos (by rfl)]
                refine wp_append_run HR5.out rfl rfl rfl ?_
                refine hK.out _ _ trivial (fun hHeld => ?_)
                clear hK K
                (try simp only [Act.put, List.setIfInBounds_toArray, List.set_cons_zero, List.set_cons_succ])
                refine wpAnyH_take (i := 7) (oi := ⟨some 91, _, _, _, _, _⟩) (v := ?_) rfl (by kernel_rfl) (by kernel_rfl) (by kernel_rfl) (fun _ _ _ h => h) (Or.inl ⟨by rfl, ?_⟩) hHeld ?_
                rotate_left
                · intro ww hSw
                  (try dsimp only at hSw)
                  go_simp
                  (try with_reducible rfl)
                simp only [Act.put, List.setIfInBounds_toArray, List.set_cons_zero, List.set_cons_succ]
                refine wpAnyH_ready (rs := [8]) (by kernel_rfl) (by simp) ?_
                refine AllReadyH.cons (o := ⟨none, _, _, _, _, _⟩) rfl (fun K hK => ?_) AllReadyH.nil
                have hcl := Has.cell HB5.out 5 rfl
                have hfz := Has.frozen HB5.out 5
                have hcs := cell_lt hcl
                go_simp
                refine hK.out _ _ trivial (fun hHeld => ?_)
                clear hK K
                (try simp only [Act.put, List.setIfInBounds_toArray, List.set_cons_zero, List.set_cons_succ])
                refine wpAnyH_done (by kernel_rfl) ?_ _
                refine NoPanic.normal ?_
                go_wp2
                go_roundw
                case rel => exact ⟨i3 + 1, q3 + 2, A5, c5, _, by omega, by have := hq.out; show _ = _; omega, by go_num, by go_num, HRW, hrow5.set hBlt3 _, HB6, hK6⟩
                case measure => simp [intOf]; omega
              · skip
                go_simp
                go_at_call 36
                refine (HA0.out _ hKd).mono ?_
                rintro e_r w11a ⟨rfl, b11a⟩
                have hBa11 := Lib.hid (Has.below (hBd.out) b11a)
                have hRa11 := Lib.hid (TRow.below (hRd.out) b11a)
                have hKa11 := fb_below hKd b11a
                clear b11a
                go_wp2_with fail
                refine hK.out _ _ trivial (fun hHeld => ?_)
                clear hK K
                (try simp only [Act.put, List.setIfInBounds_toArray, List.set_cons_zero, List.set_cons_succ])
                refine wpAnyH_ready (rs := [1, 5]) (by kernel_rfl) (by simp) ?_
                refine AllReadyH.cons (o := ⟨some 85, _, _, _, _, _⟩) rfl (fun K hK => ?_) (AllReadyH.cons (o := ⟨some 89, _, _, _, _, _⟩) rfl (fun K hK => ?_) AllReadyH.nil)
                · skip
                  have hcl := Has.cell (hBa11.out) 5 rfl
                  have hcs := cell_lt hcl
                  go_simp
                  refine hK.out _ _ trivial (fun hHeld => ?_)
                  clear hK K
                  (try simp only [Act.put, List.setIfInBounds_toArray, List.set_cons_zero, List.set_cons_succ])
                  refine wpAnyH_ready (rs := [5]) (by kernel_rfl) (by simp) ?_
                  refine AllReadyH.cons (o := ⟨some 89, _, _, _, _, _⟩) rfl (fun K hK => ?_) AllReadyH.nil
                  go_simp
                  refine hK.out _ _ trivial (fun hHeld => ?_)
                  clear hK K
                  (try simp only [Act.put, List.setIfInBounds_toArray, List.set_cons_zero, List.set_cons_succ])
                  refine wpAnyH_ready (rs := [6]) (by kernel_rfl) (by simp) ?_
                  refine AllReadyH.cons (o := ⟨some 90, _, _, _, _, _⟩) rfl (fun K hK => ?_) AllReadyH.nil
                  refine trow_lay (w := w11a) Try.underlying26 ratio_info rfl (by omega) (by omega) (hRa11.out) [x0, x1] rfl (by omega) (hKa11).size ?_
                  intro A5 c5 w5 hr5 hrow5 hk5
                  have HB5 := Lib.hid (Has.kept (hBa11.out) hBlt3 hk5)
                  have HB6 : Hid (Has (w5.setCell ⟨B, 5, none⟩ (.slice A5 (i3 + 1) c5)) B #[.int .i64 (atL L 0), .slice A j c, .int .i64 x, .int .i64 y, .slice A2 i2 c2, .slice A5 (i3 + 1) c5, .slice none 0 0, .int .i64 0, .int .i64 0, .int .i64 0, .int .i64 0, .int .i64 0, .int .i64 0, .int .i64 0, .int .i64 0, .int .i64 0, .int .i64 0, .int .i64 0, .slice none 0 0, .int .i64 0, .int .i64 0, .int .i64 0, .slice none 0 0]) := Lib.hid (by
                    have h := Has.set HB5.out 5 (.slice A5 (i3 + 1) c5)
                    simpa only [List.setIfInBounds_toArray, List.set_cons_zero, List.set_cons_succ] using h)
                  have hK6 := fb_set (fb_low hKa11 hk5) 5 (.slice A5 (i3 + 1) c5)
                  have HR5 := Lib.hid hr5
                  clear hr5
                  rw [if_pos (by rfl)]
                  refine wp_append_run HR5.out rfl rfl rfl ?_
                  refine hK.out _ _ trivial (fun hHeld => ?_)
                  clear hK K
                  (try simp only [Act.put, List.setIfInBounds_toArray, List.set_cons_zero, List.set_cons_succ])
                  refine wpAnyH_take (i := 7) (oi := ⟨some 91, _, _, _, _, _⟩) (v := ?_) rfl (by kernel_rfl) (by kernel_rfl) (by kernel_rfl) (fun _ _ _ h => h) (Or.inl ⟨by rfl, ?_⟩) hHeld ?_
                  rotate_left
                  · intro ww hSw
                    (try dsimp only at hSw)
                    go_simp
                    (try with_reducible rfl)
                  simp only [Act.put, List.setIfInBounds_toArray, List.set_cons_zero, List.set_cons_succ]
                  refine wpAnyH_ready (rs := [8]) (by kernel_rfl) (by simp) ?_
                  refine AllReadyH.cons (o := ⟨none, _, _, _, _, _⟩) rfl (fun K hK => ?_) AllReadyH.nil
                  have hcl := Has.cell HB5.out 5 rfl
                  have hfz := Has.frozen HB5.out 5
                  have hcs := cell_lt hcl
                  go_simp
                  refine hK.out _ _ trivial (fun hHeld => ?_)
                  clear hK K
                  (try simp only [Act.put, List.setIfInBounds_toArray, List.set_cons_zero, List.set_cons_succ])
                  refine wpAnyH_done (by kernel_rfl) ?_ _
                  refine NoPanic.normal ?_
                  go_wp2
                  go_roundw
                  case rel => exact ⟨i3 + 1, q3 + 2, A5, c5, _, by omega, by have := hq.out; show _ = _; omega, by go_num, by go_num, HRW, hrow5.set hBlt3 _, HB6, hK6⟩
                  case measure => simp [intOf]; omega
                · skip
                  go_simp
                  refine hK.out _ _ trivial (fun hHeld => ?_)
                  clear hK K
                  (try simp only [Act.put, List.setIfInBounds_toArray, List.set_cons_zero, List.set_cons_succ])
                  refine wpAnyH_ready (rs := [1]) (by kernel_rfl) (by simp) ?_
                  refine AllReadyH.cons (o := ⟨some 85, _, _, _, _, _⟩) rfl (fun K hK => ?_) AllReadyH.nil
                  have hcl := Has.cell (hBa11.out) 5 rfl
                  have hcs := cell_lt hcl
                  go_simp
                  refine hK.out _ _ trivial (fun hHeld => ?_)
                  clear hK K
                  (try simp only [Act.put, List.setIfInBounds_toArray, List.set_cons_zero, List.set_cons_succ])
                  refine wpAnyH_ready (rs := [6]) (by kernel_rfl) (by simp) ?_
                  refine AllReadyH.cons (o := ⟨some 90, _, _, _, _, _⟩) rfl (fun K hK => ?_) AllReadyH.nil
                  refine trow_lay (w := w11a) Try.underlying26 ratio_info rfl (by omega) (by omega) (hRa11.out) [x0, x1] rfl (by omega) (hKa11).size ?_
                  intro A5 c5 w5 hr5 hrow5 hk5
                  have HB5 := Lib.hid (Has.kept (hBa11.out) hBlt3 hk5)
                  have HB6 : Hid (Has (w5.setCell ⟨B, 5, none⟩ (.slice A5 (i3 + 1) c5)) B #[.int .i64 (atL L 0), .slice A j c, .int .i64 x, .int .i64 y, .slice A2 i2 c2, .slice A5 (i3 + 1) c5, .slice none 0 0, .int .i64 0, .int .i64 0, .int .i64 0, .int .i64 0, .int .i64 0, .int .i64 0, .int .i64 0, .int .i64 0, .int .i64 0, .int .i64 0, .int .i64 0, .slice none 0 0, .int .i64 0, .int .i64 0, .int .i64 0, .slice none 0 0]) := Lib.hid (by
                    have h := Has.set HB5.out 5 (.slice A5 (i3 + 1) c5)
                    simpa only [List.setIfInBounds_toArray, List.set_cons_zero, List.set_cons_succ] using h)
                  have hK6 := fb_set (fb_low hKa11 hk5) 5 (.slice A5 (i3 + 1) c5)
                  have HR5 := Lib.hid hr5
                  clear hr5
                  rw [if_pos (by rfl)]
                  refine wp_append_run HR5.out rfl rfl rfl ?_
                  refine hK.out _ _ trivial (fun hHeld => ?_)
                  clear hK K
                  (try simp only [Act.put, List.setIfInBounds_toArray, List.set_cons_zero, List.set_cons_succ])
                  refine wpAnyH_take (i := 7) (oi := ⟨some 91, _, _, _, _, _⟩) (v := ?_) rfl (by kernel_rfl) (by kernel_rfl) (by kernel_rfl) (fun _ _ _ h => h) (Or.inl ⟨by rfl, ?_⟩) hHeld ?_
                  rotate_left
                  · intro ww hSw
                    (try dsimp only at hSw)
                    go_simp
                    (try with_reducible rfl)
                  simp only [Act.put, List.setIfInBounds_toArray, List.set_cons_zero, List.set_cons_succ]
                  refine wpAnyH_ready (rs := [8]) (by kernel_rfl) (by simp) ?_
                  refine AllReadyH.cons (o := ⟨none, _, _, _, _, _⟩) rfl (fun K hK => ?_) AllReadyH.nil
                  have hcl := Has.cell HB5.out 5 rfl
                  have hfz := Has.frozen HB5.out 5
                  have hcs := cell_lt hcl
                  go_simp
                  refine hK.out _ _ trivial (fun hHeld => ?_)
                  clear hK K
                  (try simp only [Act.put, List.setIfInBounds_toArray, List.set_cons_zero, List.set_cons_succ])
                  refine wpAnyH_done (by kernel_rfl) ?_ _
                  refine NoPanic.normal ?_
                  go_wp2
                  go_roundw
                  case rel => exact ⟨i3 + 1, q3 + 2, A5, c5, _, by omega, by have := hq.out; show _ = _; omega, by go_num, by go_num, HRW, hrow5.set hBlt3 _, HB6, hK6⟩
                  case measure => simp [intOf]; omega
            · obtain rfl : i3 = n3 := by omega
              have e0 : ¬ (0 : Int) < ((i3 - i3 : Nat) : Int) := by omega
              have HT1k := TRow.keep HT1.out (w' := wr) (fun g hg => hK.block g.block ⟨(TRow.lt HT1.out g hg).2, by have h1 := (TRow.lt HT1.out g hg).1; omega⟩)
              clear HT1
              have HT1 := Lib.hid HT1k
              clear HT1k
              have HT2k := TRow.keep HT2.out (w' := wr) (fun g hg => hK.block g.block ⟨(TRow.lt HT2.out g hg).2, by have h1 := (TRow.lt HT2.out g hg).1; omega⟩)
              clear HT2
              have HT2 := Lib.hid HT2k
              clear HT2k
              have HT3 := Lib.hid hrow
              have hrw3 := hrw
              have hKw : Kept (FB W0 B) W0 wr := fb_on HKW.out hK
              have hqb : q3 ≤ 403 + 400 * 4 := by have := hq.out; omega
              have hq3 := hq
              obtain ⟨W4, rfl⟩ : ∃ W' : World, W' = wr := ⟨_, rfl⟩
              have hw1 : IntKind.i64.wrap ((q3 : Int) + 1) = (q3 : Int) + 1 := by rw [IntKind.wrap_i64]; omega
              have hw2 : IntKind.i64.wrap ((q3 : Int) + 1 - 1) = (q3 : Int) + 1 - 1 := by rw [IntKind.wrap_i64]; omega
              obtain ⟨n4, hn4⟩ : ∃ k, manyL L q3 = k := ⟨_, rfl⟩
              have hm4 := many_le L q3
              rw [hn4] at hm4
              have HM := Lib.hid (rmany_i (c := cl) (HNU.out _ hKw) HN.out HPO.out (q3 : Int) q3 rfl (by omega) n4 hn4)
              have HN4 := Lib.hid hn4
              clear hn4
              go_wp2_with fail
              refine HM.out.mono ?_
              rintro e u ⟨rfl, rfl⟩
              clear HM
              go_wp2_with fail
              have hBlt4 : B < W4.heap.size := Nat.lt_of_lt_of_le hBlt hKw.size
              clear HKW
              have HKW := Lib.hid hKw
              have HNU4 : Hid (∀ wx, Kept (FB W4 B) W4 wx → Nums wx Al L) := fun wx h => HNU.out wx (fb_on HKW.out h)
              obtain ⟨p4, hp4⟩ : ∃ p', q3 + 1 = p' := ⟨_, rfl⟩
              have ep4 : (q3 : Int) + 1 = (p4 : Int) := by omega
              rw [ep4]
              have hpb4 : p4 ≤ 404 + 400 * 4 := by omega
              have HP4 := Lib.hid hp4
              clear hp4 ep4 hw1 hw2 hKw hK hrow hrw hq hqb
              have HSt := hB
              clear hB
              go_loopw [6, 10] (fun vp vi wr => ∃ (i4 q4 : Nat) (A4 : Option Addr) (c4 : Nat) (rows4 : Rows2), i4 ≤ n4 ∧ Hid (q4 = p4 + 2 * i4) ∧ vp = .int .i64 (q4 : Int) ∧ vi = .int .i64 ((n4 - i4 : Nat) : Int) ∧ Hid (rows4 = rowsAt L p4 2 i4) ∧ TRow 24 2 wr W4.heap.size A4 i4 c4 rows4 ∧ Hid (Has wr B #[.int .i64 (atL L 0), .slice A j c, .int .i64 x, .int .i64 y, .slice A2 i2 c2, .slice A3 i3 c3, .slice A4 i4 c4, .int .i64 0, .int .i64 0, .int .i64 0, .int .i64 0, .int .i64 0, .int .i64 0, .int .i64 0, .int .i64 0, .int .i64 0, .int .i64 0, .int .i64 0, .slice none 0 0, .int .i64 0, .int .i64 0, .int .i64 0, .slice none 0 0]) ∧ Kept (FB W4 B) W4 wr) (fun _ vi _ => (intOf vi).toNat)
              case atStart => exact ⟨0, p4, none, 0, [], by omega, by show _ = _; omega, rfl, rfl, Lib.hid (by simp [rowsAt]), TRow.nil _ _, HSt, Kept.refl _ _⟩
              case round => as_aux_lemma =>
                clear HSt
                obtain ⟨i4, q4, A4, c4, rows4, hi4, hq, rfl, rfl, hrw, hrow, hB, hK⟩ := hrel
                by_cases hlt : i4 < n4
                · have e0 : (0 : Int) < ((n4 - i4 : Nat) : Int) := by omega
                  have hqb : q4 ≤ 604 + 400 * 4 := by have := hq.out; omega
                  have hw3 : IntKind.i64.wrap ((q4 : Int) + 2) = (q4 : Int) + 2 := by rw [IntKind.wrap_i64]; omega
                  have hw1 : IntKind.i64.wrap (((n4 - i4 : Nat) : Int) - 1) = ((n4 - (i4 + 1) : Nat) : Int) := by rw [IntKind.wrap_i64]; omega
                  have HRW : Hid (rows4 ++ [[atL L q4, atL L (q4 + 1)]] = rowsAt L p4 2 (i4 + 1)) := by
                    show _ = _
                    rw [rowsAt_succ, hrw.out]
                    have hp := hq.out
                    subst hp
                    simp [List.range_succ]
                  obtain ⟨x0, hx0⟩ : ∃ x, atL L q4 = x := ⟨_, rfl⟩
                  obtain ⟨x1, hx1⟩ : ∃ x, atL L (q4 + 1) = x := ⟨_, rfl⟩
                  rw [hx0, hx1] at HRW
                  have HA0 := Lib.hid (fun wx (h : Kept (FB W4 B) W4 wx) => rpart_i (c := cl) (HNU4.out wx h) HN.out (q4 : Int) q4 rfl (by omega) x0 x1 hx0 hx1)
                  clear hx0 hx1 hrw
                  have hKd : Kept (FB W4 B) W4 wr.drew := ⟨hK.os, hK.tape, hK.output, hK.size, hK.block⟩
                  have hBd : Hid (Has wr.drew B #[.int .i64 (atL L 0), .slice A j c, .int .i64 x, .int .i64 y, .slice A2 i2 c2, .slice A3 i3 c3, .slice A4 i4 c4, .int .i64 0, .int .i64 0, .int .i64 0, .int .i64 0, .int .i64 0, .int .i64 0, .int .i64 0, .int .i64 0, .int .i64 0, .int .i64 0, .int .i64 0, .slice none 0 0, .int .i64 0, .int .i64 0, .int .i64 0, .slice none 0 0]) := hB
                  have hRd := Lib.hid hrow.drew
                  clear hB hrow hK
                  go_wp2_with fail
                  refine wp_region_noPanic ?_
                  refine wp_region_held_drew (S := fun _ => True) (by kernel_rfl) trivial (fun hHeld => ?_)
                  refine wpAnyH_take (i := 0) (oi := ⟨some 104, _, _, _, _, _⟩) (v := ?_) rfl (by kernel_rfl) (by kernel_rfl) (by kernel_rfl) (fun _ _ _ h => h) (Or.inl ⟨by rfl, ?_⟩) hHeld ?_
                  rotate_left
                  · intro ww hSw
                    (try dsimp only at hSw)
                    go_simp
                    (try with_reducible rfl)
                  simp only [Act.put, List.setIfInBounds_toArray, List.set_cons_zero, List.set_cons_succ]
                  refine wpAnyH_take (i := 2) (oi := ⟨some 106, _, _, _, _, _⟩) (v := ?_) rfl (by kernel_rfl) (by kernel_rfl) (by kernel_rfl) (fun _ _ _ h => h) (Or.inl ⟨by rfl, ?_⟩) hHeld ?_
                  rotate_left
                  · intro ww hSw
                    (try dsimp only at hSw)
                    go_simp
                    (try with_reducible rfl)
                  simp only [Act.put, List.setIfInBounds_toArray, List.set_cons_zero, List.set_cons_succ]
                  refine wpAnyH_take (i := 3) (oi := ⟨some 107, _, _, _, _, _⟩) (v := ?_) rfl (by kernel_rfl) (by kernel_rfl) (by kernel_rfl) (fun _ _ _ h => h) (Or.inl ⟨by rfl, ?_⟩) hHeld ?_
                  rotate_left
                  · intro ww hSw
                    (try dsimp only at hSw)
                    go_simp
                    (try with_reducible rfl)
                  simp only [Act.put, List.setIfInBounds_toArray, List.set_cons_zero, List.set_cons_succ]
                  refine wpAnyH_ready (rs := [1, 4]) (by kernel_rfl) (by simp) ?_
                  refine AllReadyH.cons (o := ⟨some 105, _, _, _, _, _⟩) rfl (fun K hK => ?_) (AllReadyH.cons (o := ⟨some 108, _, _, _, _, _⟩) rfl (fun K hK => ?_) AllReadyH.nil)
                  · skip
                    have hcl := Has.cell (hBd.out) 6 rfl
                    have hcs := cell_lt hcl
                    go_simp
                    refine hK.out _ _ trivial (fun hHeld => ?_)
                    clear hK K
                    (try simp only [Act.put, List.setIfInBounds_toArray, List.set_cons_zero, List.set_cons_succ])
                    refine wpAnyH_ready (rs := [4]) (by kernel_rfl) (by simp) ?_
                    refine AllReadyH.cons (o := ⟨some 108, _, _, _, _, _⟩) rfl (fun K hK => ?_) AllReadyH.nil
                    go_simp
                    go_at_call 36
                    refine (HA0.out _ hKd).mono ?_
                    rintro e_r w12a ⟨rfl, b12a⟩
                    have hBa12 := Lib.hid (Has.below (hBd.out) b12a)
                    have hRa12 := Lib.hid (TRow.below (hRd.out) b12a)
                    have hKa12 := fb_below hKd b12a
                    clear b12a
                    go_wp2_with fail
                    refine hK.out _ _ trivial (fun hHeld => ?_)
                    clear hK K
                    (try simp only [Act.put, List.setIfInBounds_toArray, List.set_cons_zero, List.set_cons_succ])
                    refine wpAnyH_ready (rs := [5]) (by kernel_rfl) (by simp) ?_
                    refine AllReadyH.cons (o := ⟨some 109, _, _, _, _, _⟩) rfl (fun K hK => ?_) AllReadyH.nil
                    go_simp
                    refine hK.out _ _ trivial (fun hHeld => ?_)
                    clear hK K
                    (try simp only [Act.put, List.setIfInBounds_toArray, List.set_cons_zero, List.set_cons_succ])
                    refine wpAnyH_ready (rs := [6]) (by kernel_rfl) (by simp) ?_
                    refine AllReadyH.cons (o := ⟨some 110, _, _, _, _, _⟩) rfl (fun K hK => ?_) AllReadyH.nil
                    refine trow_lay (w := w12a) Try.underlying26 ratio_info rfl (by omega) (by omega) (hRa12.out) [x0, x1] rfl (by omega) (hKa12).size ?_
                    intro A5 c5 w5 hr5 hrow5 hk5
                    have HB5 := Lib.hid (Has.kept (hBa12.out) hBlt4 hk5)
                    have HB6 : Hid (Has (w5.setCell ⟨B, 6, none⟩ (.slice A5 (i4 + 1) c5)) B #[.int .i64 (atL L 0), .slice A j c, .int .i64 x, .int .i64 y, .slice A2 i2 c2, .slice A3 i3 c3, .slice A5 (i4 + 1) c5, .int .i64 0, .int .i64 0, .int .i64 0, .int .i64 0, .int .i64 0, .int .i64 0, .int .i64 0, .int .i64 0, .int .i64 0, .int .i64 0, .int .i64 0, .slice none 0 0, .int .i64 0, .int .i64 0, .int .i64 0, .slice none 0 0]) := Lib.hid (by
                      have h := Has.set HB5.out 6 (.slice A5 (i4 + 1) c5)
                      simpa only [List.setIfInBounds_toArray, List.set_cons_zero, List.set_cons_succ] using h)
                    have hK6 := fb_set (fb_low hKa12 hk5) 6 (.slice A5 (i4 + 1) c5)
                    have HR5 := Lib.hid hr5
                    clear hr5
                    rw [if_pos (by rfl)]
                    refine wp_append_run HR5.out rfl rfl rfl ?_
                    refine hK.out _ _ trivial (fun hHeld => ?_)
                    clear hK K
                    (try simp only [Act.put, List.setIfInBounds_toArray, List.set_cons_zero, List.set_cons_succ])
                    refine wpAnyH_take (i := 7) (oi := ⟨some 111, _, _, _, _, _⟩) (v := ?_) rfl (by kernel_rfl) (by kernel_rfl) (by kernel_rfl) (fun _ _ _ h => h) (Or.inl ⟨by rfl, ?_⟩) hHeld ?_
                    rotate_left
                    · intro ww hSw
                      (try dsimp only at hSw)
                      go_simp
                      (try with_reducible rfl)
                    simp only [Act.put, List.setIfInBounds_toArray, List.set_cons_zero, List.set_cons_succ]
                    refine wpAnyH_ready (rs := [8]) (by kernel_rfl) (by simp) ?_
                    refine AllReadyH.cons (o := ⟨none, _, _, _, _, _⟩) rfl (fun K hK => ?_) AllReadyH.nil
                    have hcl := Has.cell HB5.out 6 rfl
                    have hfz := Has.frozen HB5.out 6
                    have hcs := cell_lt hcl
                    go_simp
                    refine hK.out _ _ trivial (fun hHeld => ?_)
                    clear hK K
                    (try simp only [Act.put, List.setIfInBounds_toArray, List.set_cons_zero, List.set_cons_succ])
                    refine wpAnyH_done (by kernel_rfl) ?_ _
                    refine NoPanic.normal ?_
                    go_wp2
                    go_roundw
                    case rel => exact ⟨i4 + 1, q4 + 2, A5, c5, _, by omega, by have := hq.out; show _ = _; omega, by go_num, by go_num, HRW, hrow5.set hBlt4 _, HB6, hK6⟩
                    case measure => simp [intOf]; omega
                  · skip
                    go_simp
                    go_at_call 36
                    refine (HA0.out _ hKd).mono ?_
                    rintro e_r w13a ⟨rfl, b13a⟩
                    have hBa13 := Lib.hid (Has.below (hBd.out) b13a)
                    have hRa13 := Lib.hid (TRow.below (hRd.out) b13a)
                    have hKa13 := fb_below hKd b13a
                    clear b13a
                    go_wp2_with fail
                    refine hK.out _ _ trivial (fun hHeld => ?_)
                    clear hK K
                    (try simp only [Act.put, List.setIfInBounds_toArray, List.set_cons_zero, List.set_cons_succ])
                    refine wpAnyH_ready (rs := [1, 5]) (by kernel_rfl) (by simp) ?_
                    refine AllReadyH.cons (o := ⟨some 105, _, _, _, _, _⟩) rfl (fun K hK => ?_) (AllReadyH.cons (o := ⟨some 109, _, _, _, _, _⟩) rfl (fun K hK => ?_) AllReadyH.nil)
                    · skip
                      have hcl := Has.cell (hBa13.out) 6 rfl
                      have hcs := cell_lt hcl
                      go_simp
                      refine hK.out _ _ trivial (fun hHeld => ?_)
                      clear hK K
                      (try simp only [Act.put, List.setIfInBounds_toArray, List.set_cons_zero, List.set_cons_succ])
                      refine wpAnyH_ready (rs := [5]) (by kernel_rfl) (by simp) ?_
                      refine AllReadyH.cons (o := ⟨some 109, _, _, _, _, _⟩) rfl (fun K hK => ?_) AllReadyH.nil
                      go_simp
                      refine hK.out _ _ trivial (fun hHeld => ?_)
                      clear hK K
                      (try simp only [Act.put, List.setIfInBounds_toArray, List.set_cons_zero, List.set_cons_succ])
                      refine wpAnyH_ready (rs := [6]) (by kernel_rfl) (by simp) ?_
                      refine AllReadyH.cons (o := ⟨some 110, _, _, _, _, _⟩) rfl (fun K hK => ?_) AllReadyH.nil
                      refine trow_lay (w := w13a) Try.underlying26 ratio_info rfl (by omega) (by omega) (hRa13.out) [x0, x1] rfl (by omega) (hKa13).size ?_
                      intro A5 c5 w5 hr5 hrow5 hk5
                      have HB5 := Lib.hid (Has.kept (hBa13.out) hBlt4 hk5)
                      have HB6 : Hid (Has (w5.setCell ⟨B, 6, none⟩ (.slice A5 (i4 + 1) c5)) B #[.int .i64 (atL L 0), .slice A j c, .int .i64 x, .int .i64 y, .slice A2 i2 c2, .slice A3 i3 c3, .slice A5 (i4 + 1) c5, .int .i64 0, .int .i64 0, .int .i64 0, .int .i64 0, .int .i64 0, .int .i64 0, .int .i64 0, .int .i64 0, .int .i64 0, .int .i64 0, .int .i64 0, .slice none 0 0, .int .i64 0, .int .i64 0, .int .i64 0, .slice none 0 0]) := Lib.hid (by
                        have h := Has.set HB5.out 6 (.slice A5 (i4 + 1) c5)
                        simpa only [List.setIfInBounds_toArray, List.set_cons_zero, List.set_cons_succ] using h)
                      have hK6 := fb_set (fb_low hKa13 hk5) 6 (.slice A5 (i4 + 1) c5)
                      have HR5 := Lib.hid hr5
                      clear hr5
                      rw [if_pos (by rfl)]
                      refine wp_append_run HR5.out rfl rfl rfl ?_
                      refine hK.out _ _ trivial (fun hHeld => ?_)
                      clear hK K
                      (try simp only [Act.put, List.setIfInBounds_toArray, List.set_cons_zero, List.set_cons_succ])
                      refine wpAnyH_take (i := 7) (oi := ⟨some 111, _, _, _, _, _⟩) (v := ?_) rfl (by kernel_rfl) (by kernel_rfl) (by kernel_rfl) (fun _ _ _ h => h) (Or.inl ⟨by rfl, ?_⟩) hHeld ?_
                      rotate_left
                      · intro ww hSw
                        (try dsimp only at hSw)
                        go_simp
                        (try with_reducible rfl)
                      simp only [Act.put, List.setIfInBounds_toArray, List.set_cons_zero, List.set_cons_succ]
                      refine wpAnyH_ready (rs := [8]) (by kernel_rfl) (by simp) ?_
                      refine AllReadyH.cons (o := ⟨none, _, _, _, _, _⟩) rfl (fun K hK => ?_) AllReadyH.nil
                      have hcl := Has.cell HB5.out 6 rfl
                      have hfz := Has.frozen HB5.out 6
                      have hcs := cell_lt hcl
                      go_simp
                      refine hK.out _ _ trivial (fun hHeld => ?_)
                      clear hK K
                      (try simp only [Act.put, List.setIfInBounds_toArray, List.set_cons_zero, List.set_cons_succ])
                      refine wpAnyH_done (by kernel_rfl) ?_ _
                      refine NoPanic.normal ?_
                      go_wp2
                      go_roundw
                      case rel => exact ⟨i4 + 1, q4 + 2, A5, c5, _, by omega, by have := hq.out; show _ = _; omega, by go_num, by go_num, HRW, hrow5.set hBlt4 _, HB6, hK6⟩
                      case measure => simp [intOf]; omega
                    · skip
                      go_simp
                      refine hK.out _ _ trivial (fun hHeld => ?_)
                      clear hK K
                      (try simp only [Act.put, List.setIfInBounds_toArray, List.set_cons_zero, List.set_cons_succ])
                      refine wpAnyH_ready (rs := [1]) (by kernel_rfl) (by simp) ?_
                      refine AllReadyH.cons (o := ⟨some 105, _, _, _, _, _⟩) rfl (fun K hK => ?_) AllReadyH.nil
                      have hcl := Has.cell (hBa13.out) 6 rfl
                      have hcs := cell_lt hcl
                      go_simp
                      refine hK.out _ _ trivial (fun hHeld => ?_)
                      clear hK K
                      (try simp only [Act.put, List.setIfInBounds_toArray, List.set_cons_zero, List.set_cons_succ])
                      refine wpAnyH_ready (rs := [6]) (by kernel_rfl) (by simp) ?_
                      refine AllReadyH.cons (o := ⟨some 110, _, _, _, _, _⟩) rfl (fun K hK => ?_) AllReadyH.nil
                      refine trow_lay (w := w13a) Try.underlying26 ratio_info rfl (by omega) (by omega) (hRa13.out) [x0, x1] rfl (by omega) (hKa13).size ?_
                      intro A5 c5 w5 hr5 hrow5 hk5
                      have HB5 := Lib.hid (Has.kept (hBa13.out) hBlt4 hk5)
                      have HB6 : Hid (Has (w5.setCell ⟨B, 6, none⟩ (.slice A5 (i4 + 1) c5)) B #[.int .i64 (atL L 0), .slice A j c, .int .i64 x, .int .i64 y, .slice A2 i2 c2, .slice A3 i3 c3, .slice A5 (i4 + 1) c5, .int .i64 0, .int .i64 0, .int .i64 0, .int .i64 0, .int .i64 0, .int .i64 0, .int .i64 0, .int .i64 0, .int .i64 0, .int .i64 0, .int .i64 0, .slice none 0 0, .int .i64 0, .int .i64 0, .int .i64 0, .slice none 0 0]) := Lib.hid (by
                        have h := Has.set HB5.out 6 (.slice A5 (i4 + 1) c5)
                        simpa only [List.setIfInBounds_toArray, List.set_cons_zero, List.set_cons_succ] using h)
                      have hK6 := fb_set (fb_low hKa13 hk5) 6 (.slice A5 (i4 + 1) c5)
                      have HR5 := Lib.hid hr5
                      clear hr5
                      rw [if_pos (by rfl)]
                      refine wp_append_run HR5.out rfl rfl rfl ?_
                      refine hK.out _ _ trivial (fun hHeld => ?_)
                      clear hK K
                      (try simp only [Act.put, List.setIfInBounds_toArray, List.set_cons_zero, List.set_cons_succ])
                      refine wpAnyH_take (i := 7) (oi := ⟨some 111, _, _, _, _, _⟩) (v := ?_) rfl (by kernel_rfl) (by kernel_rfl) (by kernel_rfl) (fun _ _ _ h => h) (Or.inl ⟨by rfl, ?_⟩) hHeld ?_
                      rotate_left
                      · intro ww hSw
                        (try dsimp only at hSw)
                        go_simp
                        (try with_reducible rfl)
                      simp only [Act.put, List.setIfInBounds_toArray, List.set_cons_zero, List.set_cons_succ]
                      refine wpAnyH_ready (rs := [8]) (by kernel_rfl) (by simp) ?_
                      refine AllReadyH.cons (o := ⟨none, _, _, _, _, _⟩) rfl (fun K hK => ?_) AllReadyH.nil
                      have hcl := Has.cell HB5.out 6 rfl
                      have hfz := Has.frozen HB5.out 6
                      have hcs := cell_lt hcl
                      go_simp
                      refine hK.out _ _ trivial (fun hHeld => ?_)
                      clear hK K
                      (try simp only [Act.put, List.setIfInBounds_toArray, List.set_cons_zero, List.set_cons_succ])
                      refine wpAnyH_done (by kernel_rfl) ?_ _
                      refine NoPanic.normal ?_
                      go_wp2
                      go_roundw
                      case rel => exact ⟨i4 + 1, q4 + 2, A5, c5, _, by omega, by have := hq.out; show _ = _; omega, by go_num, by go_num, HRW, hrow5.set hBlt4 _, HB6, hK6⟩
                      case measure => simp [intOf]; omega
                · obtain rfl : i4 = n4 := by omega
                  have e0 : ¬ (0 : Int) < ((i4 - i4 : Nat) : Int) := by omega
                  have HT1k := TRow.keep HT1.out (w' := wr) (fun g hg => hK.block g.block ⟨(TRow.lt HT1.out g hg).2, by have h1 := (TRow.lt HT1.out g hg).1; omega⟩)
                  clear HT1
                  have HT1 := Lib.hid HT1k
                  clear HT1k
                  have HT2k := TRow.keep HT2.out (w' := wr) (fun g hg => hK.block g.block ⟨(TRow.lt HT2.out g hg).2, by have h1 := (TRow.lt HT2.out g hg).1; omega⟩)
                  clear HT2
                  have HT2 := Lib.hid HT2k
                  clear HT2k
                  have HT3k := TRow.keep HT3.out (w' := wr) (fun g hg => hK.block g.block ⟨(TRow.lt HT3.out g hg).2, by have h1 := (TRow.lt HT3.out g hg).1; omega⟩)
                  clear HT3
                  have HT3 := Lib.hid HT3k
                  clear HT3k
                  have HT4 := Lib.hid hrow
                  have hrw4 := hrw
                  have hKw : Kept (FB W0 B) W0 wr := fb_on HKW.out hK
                  have hqb : q4 ≤ 2500 := by have := hq.out; omega
                  have hq4 := hq
                  obtain ⟨X5, rfl⟩ : ∃ W' : World, W' = wr := ⟨_, rfl⟩
                  clear HKW
                  have HKW := Lib.hid hKw
                  have hKs : Kept (FB X5 B) X5 X5 := Kept.refl _ _
                  have HBs := hB
                  have hBx : B < X5.heap.size := Nat.lt_of_lt_of_le hBlt hKw.size
                  clear hKw hrw hB hrow hK hq
                  obtain ⟨z5_0, hz5_0⟩ : ∃ z, atL L (q4 + 0) = z := ⟨_, rfl⟩
                  have HA := Lib.hid (rat_i (c := cl) (HNU.out _ (fb_on HKW.out hKs)) HN.out (q4 : Int) (q4 + 0) (by omega) (by omega) z5_0 hz5_0)
                  have Hz5_0 := Lib.hid hz5_0
                  clear hz5_0
                  go_wp2_with fail
                  refine HA.out.mono ?_
                  rintro e u ⟨rfl, rfl⟩
                  clear HA
                  have rr := Has.cell HBs.out 7 rfl
                  have rf := Has.frozen HBs.out 7
                  have rs := cell_lt rr
                  have HBt : Hid (Has (X5.setCell ⟨B, 7, none⟩ (.int .i64 z5_0)) B #[.int .i64 (atL L 0), .slice A j c, .int .i64 x, .int .i64 y, .slice A2 i2 c2, .slice A3 i3 c3, .slice A4 i4 c4, .int .i64 z5_0, .int .i64 0, .int .i64 0, .int .i64 0, .int .i64 0, .int .i64 0, .int .i64 0, .int .i64 0, .int .i64 0, .int .i64 0, .int .i64 0, .slice none 0 0, .int .i64 0, .int .i64 0, .int .i64 0, .slice none 0 0]) := Lib.hid (by
                    have h := Has.set HBs.out 7 (.int .i64 z5_0)
                    simpa only [List.setIfInBounds_toArray, List.set_cons_zero, List.set_cons_succ] using h)
                  have hKt := fb_set hKs 7 (.int .i64 z5_0)
                  go_wp2_with fail
                  clear rr rf rs HBs hKs
                  obtain ⟨X5_0, hX5_0⟩ : ∃ W', X5.setCell ⟨B, 7, none⟩ (.int .i64 z5_0) = W' := ⟨_, rfl⟩
                  rw [hX5_0] at HBt hKt
                  rw [hX5_0]
                  clear hX5_0
                  have HBs := HBt
                  have hKs := hKt
                  clear HBt hKt
                  have hw1 : IntKind.i64.wrap ((q4 : Int) + 1) = (q4 : Int) + 1 := by rw [IntKind.wrap_i64]; omega
                  obtain ⟨z5_1, hz5_1⟩ : ∃ z, atL L (q4 + 1) = z := ⟨_, rfl⟩
                  have HA := Lib.hid (rat_i (c := cl) (HNU.out _ (fb_on HKW.out hKs)) HN.out ((q4 : Int) + 1) (q4 + 1) (by omega) (by omega) z5_1 hz5_1)
                  have Hz5_1 := Lib.hid hz5_1
                  clear hz5_1
                  go_wp2_with fail
                  refine HA.out.mono ?_
                  rintro e u ⟨rfl, rfl⟩
                  clear HA hw1
                  have rr := Has.cell HBs.out 8 rfl
                  have rf := Has.frozen HBs.out 8
                  have rs := cell_lt rr
                  have HBt : Hid (Has (X5_0.setCell ⟨B, 8, none⟩ (.int .i64 z5_1)) B #[.int .i64 (atL L 0), .slice A j c, .int .i64 x, .int .i64 y, .slice A2 i2 c2, .slice A3 i3 c3, .slice A4 i4 c4, .int .i64 z5_0, .int .i64 z5_1, .int .i64 0, .int .i64 0, .int .i64 0, .int .i64 0, .int .i64 0, .int .i64 0, .int .i64 0, .int .i64 0, .int .i64 0, .slice none 0 0, .int .i64 0, .int .i64 0, .int .i64 0, .slice none 0 0]) := Lib.hid (by
                    have h := Has.set HBs.out 8 (.int .i64 z5_1)
                    simpa only [List.setIfInBounds_toArray, List.set_cons_zero, List.set_cons_succ] using h)
                  have hKt := fb_set hKs 8 (.int .i64 z5_1)
                  go_wp2_with fail
                  clear rr rf rs HBs hKs
                  obtain ⟨X5_1, hX5_1⟩ : ∃ W', X5_0.setCell ⟨B, 8, none⟩ (.int .i64 z5_1) = W' := ⟨_, rfl⟩
                  rw [hX5_1] at HBt hKt
                  rw [hX5_1]
                  clear hX5_1
                  have HBs := HBt
                  have hKs := hKt
                  clear HBt hKt
                  have hw2 : IntKind.i64.wrap ((q4 : Int) + 2) = (q4 : Int) + 2 := by rw [IntKind.wrap_i64]; omega
                  obtain ⟨z5_2, hz5_2⟩ : ∃ z, atL L (q4 + 2) = z := ⟨_, rfl⟩
                  have HA := Lib.hid (rat_i (c := cl) (HNU.out _ (fb_on HKW.out hKs)) HN.out ((q4 : Int) + 2) (q4 + 2) (by omega) (by omega) z5_2 hz5_2)
                  have Hz5_2 := Lib.hid hz5_2
                  clear hz5_2
                  go_wp2_with fail
                  refine HA.out.mono ?_
                  rintro e u ⟨rfl, rfl⟩
                  clear HA hw2
                  have rr := Has.cell HBs.out 9 rfl
                  have rf := Has.frozen HBs.out 9
                  have rs := cell_lt rr
                  have HBt : Hid (Has (X5_1.setCell ⟨B, 9, none⟩ (.int .i64 z5_2)) B #[.int .i64 (atL L 0), .slice A j c, .int .i64 x, .int .i64 y, .slice A2 i2 c2, .slice A3 i3 c3, .slice A4 i4 c4, .int .i64 z5_0, .int .i64 z5_1, .int .i64 z5_2, .int .i64 0, .int .i64 0, .int .i64 0, .int .i64 0, .int .i64 0, .int .i64 0, .int .i64 0, .int .i64 0, .slice none 0 0, .int .i64 0, .int .i64 0, .int .i64 0, .slice none 0 0]) := Lib.hid (by
                    have h := Has.set HBs.out 9 (.int .i64 z5_2)
                    simpa only [List.setIfInBounds_toArray, List.set_cons_zero, List.set_cons_succ] using h)
                  have hKt := fb_set hKs 9 (.int .i64 z5_2)
                  go_wp2_with fail
                  clear rr rf rs HBs hKs
                  obtain ⟨X5_2, hX5_2⟩ : ∃ W', X5_1.setCell ⟨B, 9, none⟩ (.int .i64 z5_2) = W' := ⟨_, rfl⟩
                  rw [hX5_2] at HBt hKt
                  rw [hX5_2]
                  clear hX5_2
                  have HBs := HBt
                  have hKs := hKt
                  clear HBt hKt
                  have hw3 : IntKind.i64.wrap ((q4 : Int) + 3) = (q4 : Int) + 3 := by rw [IntKind.wrap_i64]; omega
                  obtain ⟨z5_3, hz5_3⟩ : ∃ z, atL L (q4 + 3) = z := ⟨_, rfl⟩
                  have HA := Lib.hid (rat_i (c := cl) (HNU.out _ (fb_on HKW.out hKs)) HN.out ((q4 : Int) + 3) (q4 + 3) (by omega) (by omega) z5_3 hz5_3)
                  have Hz5_3 := Lib.hid hz5_3
                  clear hz5_3
                  go_wp2_with fail
                  refine HA.out.mono ?_
                  rintro e u ⟨rfl, rfl⟩
                  clear HA hw3
                  have rr := Has.cell HBs.out 10 rfl
                  have rf := Has.frozen HBs.out 10
                  have rs := cell_lt rr
                  have HBt : Hid (Has (X5_2.setCell ⟨B, 10, none⟩ (.int .i64 z5_3)) B #[.int .i64 (atL L 0), .slice A j c, .int .i64 x, .int .i64 y, .slice A2 i2 c2, .slice A3 i3 c3, .slice A4 i4 c4, .int .i64 z5_0, .int .i64 z5_1, .int .i64 z5_2, .int .i64 z5_3, .int .i64 0, .int .i64 0, .int .i64 0, .int .i64 0, .int .i64 0, .int .i64 0, .int .i64 0, .slice none 0 0, .int .i64 0, .int .i64 0, .int .i64 0, .slice none 0 0]) := Lib.hid (by
                    have h := Has.set HBs.out 10 (.int .i64 z5_3)
                    simpa only [List.setIfInBounds_toArray, List.set_cons_zero, List.set_cons_succ] using h)
                  have hKt := fb_set hKs 10 (.int .i64 z5_3)
                  go_wp2_with fail
                  clear rr rf rs HBs hKs
                  obtain ⟨X5_3, hX5_3⟩ : ∃ W', X5_2.setCell ⟨B, 10, none⟩ (.int .i64 z5_3) = W' := ⟨_, rfl⟩
                  rw [hX5_3] at HBt hKt
                  rw [hX5_3]
                  clear hX5_3
                  have HBs := HBt
                  have hKs := hKt
                  clear HBt hKt
                  have hw4 : IntKind.i64.wrap ((q4 : Int) + 4) = (q4 : Int) + 4 := by rw [IntKind.wrap_i64]; omega
                  obtain ⟨z5_4, hz5_4⟩ : ∃ z, atL L (q4 + 4) = z := ⟨_, rfl⟩
                  have HA := Lib.hid (rat_i (c := cl) (HNU.out _ (fb_on HKW.out hKs)) HN.out ((q4 : Int) + 4) (q4 + 4) (by omega) (by omega) z5_4 hz5_4)
                  have Hz5_4 := Lib.hid hz5_4
                  clear hz5_4
                  go_wp2_with fail
                  refine HA.out.mono ?_
                  rintro e u ⟨rfl, rfl⟩
                  clear HA hw4
                  have rr := Has.cell HBs.out 11 rfl
                  have rf := Has.frozen HBs.out 11
                  have rs := cell_lt rr
                  have HBt : Hid (Has (X5_3.setCell ⟨B, 11, none⟩ (.int .i64 z5_4)) B #[.int .i64 (atL L 0), .slice A j c, .int .i64 x, .int .i64 y, .slice A2 i2 c2, .slice A3 i3 c3, .slice A4 i4 c4, .int .i64 z5_0, .int .i64 z5_1, .int .i64 z5_2, .int .i64 z5_3, .int .i64 z5_4, .int .i64 0, .int .i64 0, .int .i64 0, .int .i64 0, .int .i64 0, .int .i64 0, .slice none 0 0, .int .i64 0, .int .i64 0, .int .i64 0, .slice none 0 0]) := Lib.hid (by
                    have h := Has.set HBs.out 11 (.int .i64 z5_4)
                    simpa only [List.setIfInBounds_toArray, List.set_cons_zero, List.set_cons_succ] using h)
                  have hKt := fb_set hKs 11 (.int .i64 z5_4)
                  go_wp2_with fail
                  clear rr rf rs HBs hKs
                  obtain ⟨X5_4, hX5_4⟩ : ∃ W', X5_3.setCell ⟨B, 11, none⟩ (.int .i64 z5_4) = W' := ⟨_, rfl⟩
                  rw [hX5_4] at HBt hKt
                  rw [hX5_4]
                  clear hX5_4
                  have HBs := HBt
                  have hKs := hKt
                  clear HBt hKt
                  have hw5 : IntKind.i64.wrap ((q4 : Int) + 5) = (q4 : Int) + 5 := by rw [IntKind.wrap_i64]; omega
                  obtain ⟨z5_5, hz5_5⟩ : ∃ z, atL L (q4 + 5) = z := ⟨_, rfl⟩
                  have HA := Lib.hid (rat_i (c := cl) (HNU.out _ (fb_on HKW.out hKs)) HN.out ((q4 : Int) + 5) (q4 + 5) (by omega) (by omega) z5_5 hz5_5)
                  have Hz5_5 := Lib.hid hz5_5
                  clear hz5_5
                  go_wp2_with fail
                  refine HA.out.mono ?_
                  rintro e u ⟨rfl, rfl⟩
                  clear HA hw5
                  have rr := Has.cell HBs.out 12 rfl
                  have rf := Has.frozen HBs.out 12
                  have rs := cell_lt rr
                  have HBt : Hid (Has (X5_4.setCell ⟨B, 12, none⟩ (.int .i64 z5_5)) B #[.int .i64 (atL L 0), .slice A j c, .int .i64 x, .int .i64 y, .slice A2 i2 c2, .slice A3 i3 c3, .slice A4 i4 c4, .int .i64 z5_0, .int .i64 z5_1, .int .i64 z5_2, .int .i64 z5_3, .int .i64 z5_4, .int .i64 z5_5, .int .i64 0, .int .i64 0, .int .i64 0, .int .i64 0, .int .i64 0, .slice none 0 0, .int .i64 0, .int .i64 0, .int .i64 0, .slice none 0 0]) := Lib.hid (by
                    have h := Has.set HBs.out 12 (.int .i64 z5_5)
                    simpa only [List.setIfInBounds_toArray, List.set_cons_zero, List.set_cons_succ] using h)
                  have hKt := fb_set hKs 12 (.int .i64 z5_5)
                  go_wp2_with fail
                  clear rr rf rs HBs hKs
                  obtain ⟨X5_5, hX5_5⟩ : ∃ W', X5_4.setCell ⟨B, 12, none⟩ (.int .i64 z5_5) = W' := ⟨_, rfl⟩
                  rw [hX5_5] at HBt hKt
                  rw [hX5_5]
                  clear hX5_5
                  have HBs := HBt
                  have hKs := hKt
                  clear HBt hKt
                  have hw6 : IntKind.i64.wrap ((q4 : Int) + 6) = (q4 : Int) + 6 := by rw [IntKind.wrap_i64]; omega
                  obtain ⟨z5_6, hz5_6⟩ : ∃ z, atL L (q4 + 6) = z := ⟨_, rfl⟩
                  have HA := Lib.hid (rat_i (c := cl) (HNU.out _ (fb_on HKW.out hKs)) HN.out ((q4 : Int) + 6) (q4 + 6) (by omega) (by omega) z5_6 hz5_6)
                  have Hz5_6 := Lib.hid hz5_6
                  clear hz5_6
                  go_wp2_with fail
                  refine HA.out.mono ?_
                  rintro e u ⟨rfl, rfl⟩
                  clear HA hw6
                  have rr := Has.cell HBs.out 13 rfl
                  have rf := Has.frozen HBs.out 13
                  have rs := cell_lt rr
                  have HBt : Hid (Has (X5_5.setCell ⟨B, 13, none⟩ (.int .i64 z5_6)) B #[.int .i64 (atL L 0), .slice A j c, .int .i64 x, .int .i64 y, .slice A2 i2 c2, .slice A3 i3 c3, .slice A4 i4 c4, .int .i64 z5_0, .int .i64 z5_1, .int .i64 z5_2, .int .i64 z5_3, .int .i64 z5_4, .int .i64 z5_5, .int .i64 z5_6, .int .i64 0, .int .i64 0, .int .i64 0, .int .i64 0, .slice none 0 0, .int .i64 0, .int .i64 0, .int .i64 0, .slice none 0 0]) := Lib.hid (by
                    have h := Has.set HBs.out 13 (.int .i64 z5_6)
                    simpa only [List.setIfInBounds_toArray, List.set_cons_zero, List.set_cons_succ] using h)
                  have hKt := fb_set hKs 13 (.int .i64 z5_6)
                  go_wp2_with fail
                  clear rr rf rs HBs hKs
                  obtain ⟨X5_6, hX5_6⟩ : ∃ W', X5_5.setCell ⟨B, 13, none⟩ (.int .i64 z5_6) = W' := ⟨_, rfl⟩
                  rw [hX5_6] at HBt hKt
                  rw [hX5_6]
                  clear hX5_6
                  have HBs := HBt
                  have hKs := hKt
                  clear HBt hKt
                  have hw7 : IntKind.i64.wrap ((q4 : Int) + 7) = (q4 : Int) + 7 := by rw [IntKind.wrap_i64]; omega
                  obtain ⟨z5_7, hz5_7⟩ : ∃ z, atL L (q4 + 7) = z := ⟨_, rfl⟩
                  have HA := Lib.hid (rat_i (c := cl) (HNU.out _ (fb_on HKW.out hKs)) HN.out ((q4 : Int) + 7) (q4 + 7) (by omega) (by omega) z5_7 hz5_7)
                  have Hz5_7 := Lib.hid hz5_7
                  clear hz5_7
                  go_wp2_with fail
                  refine HA.out.mono ?_
                  rintro e u ⟨rfl, rfl⟩
                  clear HA hw7
                  have rr := Has.cell HBs.out 14 rfl
                  have rf := Has.frozen HBs.out 14
                  have rs := cell_lt rr
                  have HBt : Hid (Has (X5_6.setCell ⟨B, 14, none⟩ (.int .i64 z5_7)) B #[.int .i64 (atL L 0), .slice A j c, .int .i64 x, .int .i64 y, .slice A2 i2 c2, .slice A3 i3 c3, .slice A4 i4 c4, .int .i64 z5_0, .int .i64 z5_1, .int .i64 z5_2, .int .i64 z5_3, .int .i64 z5_4, .int .i64 z5_5, .int .i64 z5_6, .int .i64 z5_7, .int .i64 0, .int .i64 0, .int .i64 0, .slice none 0 0, .int .i64 0, .int .i64 0, .int .i64 0, .slice none 0 0]) := Lib.hid (by
                    have h := Has.set HBs.out 14 (.int .i64 z5_7)
                    simpa only [List.setIfInBounds_toArray, List.set_cons_zero, List.set_cons_succ] using h)
                  have hKt := fb_set hKs 14 (.int .i64 z5_7)
                  go_wp2_with fail
                  clear rr rf rs HBs hKs
                  obtain ⟨X5_7, hX5_7⟩ : ∃ W', X5_6.setCell ⟨B, 14, none⟩ (.int .i64 z5_7) = W' := ⟨_, rfl⟩
                  rw [hX5_7] at HBt hKt
                  rw [hX5_7]
                  clear hX5_7
                  have HBs := HBt
                  have hKs := hKt
                  clear HBt hKt
                  have hw8 : IntKind.i64.wrap ((q4 : Int) + 8) = (q4 : Int) + 8 := by rw [IntKind.wrap_i64]; omega
                  obtain ⟨z5_8, hz5_8⟩ : ∃ z, atL L (q4 + 8) = z := ⟨_, rfl⟩
                  have HA := Lib.hid (rat_i (c := cl) (HNU.out _ (fb_on HKW.out hKs)) HN.out ((q4 : Int) + 8) (q4 + 8) (by omega) (by omega) z5_8 hz5_8)
                  have Hz5_8 := Lib.hid hz5_8
                  clear hz5_8
                  go_wp2_with fail
                  refine HA.out.mono ?_
                  rintro e u ⟨rfl, rfl⟩
                  clear HA hw8
                  have rr := Has.cell HBs.out 15 rfl
                  have rf := Has.frozen HBs.out 15
                  have rs := cell_lt rr
                  have HBt : Hid (Has (X5_7.setCell ⟨B, 15, none⟩ (.int .i64 z5_8)) B #[.int .i64 (atL L 0), .slice A j c, .int .i64 x, .int .i64 y, .slice A2 i2 c2, .slice A3 i3 c3, .slice A4 i4 c4, .int .i64 z5_0, .int .i64 z5_1, .int .i64 z5_2, .int .i64 z5_3, .int .i64 z5_4, .int .i64 z5_5, .int .i64 z5_6, .int .i64 z5_7, .int .i64 z5_8, .int .i64 0, .int .i64 0, .slice none 0 0, .int .i64 0, .int .i64 0, .int .i64 0, .slice none 0 0]) := Lib.hid (by
                    have h := Has.set HBs.out 15 (.int .i64 z5_8)
                    simpa only [List.setIfInBounds_toArray, List.set_cons_zero, List.set_cons_succ] using h)
                  have hKt := fb_set hKs 15 (.int .i64 z5_8)
                  go_wp2_with fail
                  clear rr rf rs HBs hKs
                  obtain ⟨X5_8, hX5_8⟩ : ∃ W', X5_7.setCell ⟨B, 15, none⟩ (.int .i64 z5_8) = W' := ⟨_, rfl⟩
                  rw [hX5_8] at HBt hKt
                  rw [hX5_8]
                  clear hX5_8
                  have HBs := HBt
                  have hKs := hKt
                  clear HBt hKt
                  have hw9 : IntKind.i64.wrap ((q4 : Int) + 9) = (q4 : Int) + 9 := by rw [IntKind.wrap_i64]; omega
                  obtain ⟨z5_9, hz5_9⟩ : ∃ z, atL L (q4 + 9) = z := ⟨_, rfl⟩
                  have HA := Lib.hid (rat_i (c := cl) (HNU.out _ (fb_on HKW.out hKs)) HN.out ((q4 : Int) + 9) (q4 + 9) (by omega) (by omega) z5_9 hz5_9)
                  have Hz5_9 := Lib.hid hz5_9
                  clear hz5_9
                  go_wp2_with fail
                  refine HA.out.mono ?_
                  rintro e u ⟨rfl, rfl⟩
                  clear HA hw9
                  have rr := Has.cell HBs.out 16 rfl
                  have rf := Has.frozen HBs.out 16
                  have rs := cell_lt rr
                  have HBt : Hid (Has (X5_8.setCell ⟨B, 16, none⟩ (.int .i64 z5_9)) B #[.int .i64 (atL L 0), .slice A j c, .int .i64 x, .int .i64 y, .slice A2 i2 c2, .slice A3 i3 c3, .slice A4 i4 c4, .int .i64 z5_0, .int .i64 z5_1, .int .i64 z5_2, .int .i64 z5_3, .int .i64 z5_4, .int .i64 z5_5, .int .i64 z5_6, .int .i64 z5_7, .int .i64 z5_8, .int .i64 z5_9, .int .i64 0, .slice none 0 0, .int .i64 0, .int .i64 0, .int .i64 0, .slice none 0 0]) := Lib.hid (by
                    have h := Has.set HBs.out 16 (.int .i64 z5_9)
                    simpa only [List.setIfInBounds_toArray, List.set_cons_zero, List.set_cons_succ] using h)
                  have hKt := fb_set hKs 16 (.int .i64 z5_9)
                  go_wp2_with fail
                  clear rr rf rs HBs hKs
                  obtain ⟨X5_9, hX5_9⟩ : ∃ W', X5_8.setCell ⟨B, 16, none⟩ (.int .i64 z5_9) = W' := ⟨_, rfl⟩
                  rw [hX5_9] at HBt hKt
                  rw [hX5_9]
                  clear hX5_9
                  have HBs := HBt
                  have hKs := hKt
                  clear HBt hKt
                  have hw10 : IntKind.i64.wrap ((q4 : Int) + 10) = (q4 : Int) + 10 := by rw [IntKind.wrap_i64]; omega
                  obtain ⟨z5_10, hz5_10⟩ : ∃ z, atL L (q4 + 10) = z := ⟨_, rfl⟩
                  have HA := Lib.hid (rat_i (c := cl) (HNU.out _ (fb_on HKW.out hKs)) HN.out ((q4 : Int) + 10) (q4 + 10) (by omega) (by omega) z5_10 hz5_10)
                  have Hz5_10 := Lib.hid hz5_10
                  clear hz5_10
                  go_wp2_with fail
                  refine HA.out.mono ?_
                  rintro e u ⟨rfl, rfl⟩
                  clear HA hw10
                  have rr := Has.cell HBs.out 17 rfl
                  have rf := Has.frozen HBs.out 17
                  have rs := cell_lt rr
                  have HBt : Hid (Has (X5_9.setCell ⟨B, 17, none⟩ (.int .i64 z5_10)) B #[.int .i64 (atL L 0), .slice A j c, .int .i64 x, .int .i64 y, .slice A2 i2 c2, .slice A3 i3 c3, .slice A4 i4 c4, .int .i64 z5_0, .int .i64 z5_1, .int .i64 z5_2, .int .i64 z5_3, .int .i64 z5_4, .int .i64 z5_5, .int .i64 z5_6, .int .i64 z5_7, .int .i64 z5_8, .int .i64 z5_9, .int .i64 z5_10, .slice none 0 0, .int .i64 0, .int .i64 0, .int .i64 0, .slice none 0 0]) := Lib.hid (by
                    have h := Has.set HBs.out 17 (.int .i64 z5_10)
                    simpa only [List.setIfInBounds_toArray, List.set_cons_zero, List.set_cons_succ] using h)
                  have hKt := fb_set hKs 17 (.int .i64 z5_10)
                  have hw1 : IntKind.i64.wrap ((q4 : Int) + 12) = (q4 : Int) + 12 := by rw [IntKind.wrap_i64]; omega
                  have hw2 : IntKind.i64.wrap ((q4 : Int) + 12 - 1) = (q4 : Int) + 12 - 1 := by rw [IntKind.wrap_i64]; omega
                  go_wp2_with fail
                  clear rr rf rs HBs hKs
                  obtain ⟨X5_10, hX5_10⟩ : ∃ W', X5_9.setCell ⟨B, 17, none⟩ (.int .i64 z5_10) = W' := ⟨_, rfl⟩
                  rw [hX5_10] at HBt hKt
                  rw [hX5_10]
                  clear hX5_10
                  have HBs := HBt
                  have hKs := hKt
                  clear HBt hKt
                  obtain ⟨n5, hn5⟩ : ∃ k, manyL L (q4 + 11) = k := ⟨_, rfl⟩
                  have hm5 := many_le L (q4 + 11)
                  rw [hn5] at hm5
                  have hKw := fb_on HKW.out hKs
                  have HM := Lib.hid (rmany_i (c := cl) (HNU.out _ hKw) HN.out HPO.out ((q4 : Int) + 12 - 1) (q4 + 11) (by omega) (by omega) n5 hn5)
                  have HN5 := Lib.hid hn5
                  clear hn5
                  refine HM.out.mono ?_
                  rintro e u ⟨rfl, rfl⟩
                  clear HM
                  go_wp2_with fail
                  obtain ⟨W5, rfl⟩ : ∃ W' : World, W' = X5_10 := ⟨_, rfl⟩
                  have HT1k := TRow.keep HT1.out (w' := W5) (fun g hg => hKs.block g.block ⟨(TRow.lt HT1.out g hg).2, by have h1 := (TRow.lt HT1.out g hg).1; omega⟩)
                  clear HT1
                  have HT1 := Lib.hid HT1k
                  clear HT1k
                  have HT2k := TRow.keep HT2.out (w' := W5) (fun g hg => hKs.block g.block ⟨(TRow.lt HT2.out g hg).2, by have h1 := (TRow.lt HT2.out g hg).1; omega⟩)
                  clear HT2
                  have HT2 := Lib.hid HT2k
                  clear HT2k
                  have HT3k := TRow.keep HT3.out (w' := W5) (fun g hg => hKs.block g.block ⟨(TRow.lt HT3.out g hg).2, by have h1 := (TRow.lt HT3.out g hg).1; omega⟩)
                  clear HT3
                  have HT3 := Lib.hid HT3k
                  clear HT3k
                  have HT4k := TRow.keep HT4.out (w' := W5) (fun g hg => hKs.block g.block ⟨(TRow.lt HT4.out g hg).2, by have h1 := (TRow.lt HT4.out g hg).1; omega⟩)
                  clear HT4
                  have HT4 := Lib.hid HT4k
                  clear HT4k
                  have hBlt5 : B < W5.heap.size := Nat.lt_of_lt_of_le hBlt hKw.size
                  clear HKW
                  have HKW := Lib.hid hKw
                  have HNU5 : Hid (∀ wx, Kept (FB W5 B) W5 wx → Nums wx Al L) := fun wx h => HNU.out wx (fb_on HKW.out h)
                  obtain ⟨p5, hp5⟩ : ∃ p', q4 + 12 = p' := ⟨_, rfl⟩
                  have ep5 : (q4 : Int) + 12 = (p5 : Int) := by omega
                  rw [ep5]
                  have hpb5 : p5 ≤ 2512 := by omega
                  have HP5 := Lib.hid hp5
                  clear hp5 ep5 hw1 hw2 hKw hKs hqb
                  have HSt := HBs
                  clear HBs
                  go_loopw [6, 11] (fun vp vi wr => ∃ (i5 q5 : Nat) (A5 : Option Addr) (c5 : Nat) (rows5 : Rows2), i5 ≤ n5 ∧ Hid (q5 = p5 + 1 * i5) ∧ vp = .int .i64 (q5 : Int) ∧ vi = .int .i64 ((n5 - i5 : Nat) : Int) ∧ Hid (rows5 = rowsAt L p5 1 i5) ∧ TRow 3 1 wr W5.heap.size A5 i5 c5 rows5 ∧ Hid (Has wr B #[.int .i64 (atL L 0), .slice A j c, .int .i64 x, .int .i64 y, .slice A2 i2 c2, .slice A3 i3 c3, .slice A4 i4 c4, .int .i64 z5_0, .int .i64 z5_1, .int .i64 z5_2, .int .i64 z5_3, .int .i64 z5_4, .int .i64 z5_5, .int .i64 z5_6, .int .i64 z5_7, .int .i64 z5_8, .int .i64 z5_9, .int .i64 z5_10, .slice A5 i5 c5, .int .i64 0, .int .i64 0, .int .i64 0, .slice none 0 0]) ∧ Kept (FB W5 B) W5 wr) (fun _ vi _ => (intOf vi).toNat)
                  case atStart => exact ⟨0, p5, none, 0, [], by omega, by show _ = _; omega, rfl, rfl, Lib.hid (by simp [rowsAt]), TRow.nil _ _, HSt, Kept.refl _ _⟩
                  case round => as_aux_lemma =>
                    clear HSt
                    obtain ⟨i5, q5, A5, c5, rows5, hi5, hq, rfl, rfl, hrw, hrow, hB, hK⟩ := hrel
                    by_cases hlt : i5 < n5
                    · have e0 : (0 : Int) < ((n5 - i5 : Nat) : Int) := by omega
                      have hqb : q5 ≤ 2700 := by have := hq.out; omega
                      have hwp1 : IntKind.i64.wrap ((q5 : Int) + 1) = (q5 : Int) + 1 := by rw [IntKind.wrap_i64]; omega
                      have hw1 : IntKind.i64.wrap (((n5 - i5 : Nat) : Int) - 1) = ((n5 - (i5 + 1) : Nat) : Int) := by rw [IntKind.wrap_i64]; omega
                      have HRW : Hid (rows5 ++ [[atL L q5]] = rowsAt L p5 1 (i5 + 1)) := by
                        show _ = _
                        rw [rowsAt_succ, hrw.out]
                        have hp := hq.out
                        subst hp
                        simp [List.range_succ]
                      obtain ⟨x0, hx0⟩ : ∃ x, atL L (q5) = x := ⟨_, rfl⟩
                      rw [hx0] at HRW
                      have HA0 := Lib.hid (fun wx (h : Kept (FB W5 B) W5 wx) => rat_i (c := cl) (HNU5.out wx h) HN.out (q5 : Int) (q5) (by omega) (by omega) x0 hx0)
                      clear hx0 hrw
                      have hKd : Kept (FB W5 B) W5 wr.drew := ⟨hK.os, hK.tape, hK.output, hK.size, hK.block⟩
                      have hBd : Hid (Has wr.drew B #[.int .i64 (atL L 0), .slice A j c, .int .i64 x, .int .i64 y, .slice A2 i2 c2, .slice A3 i3 c3, .slice A4 i4 c4, .int .i64 z5_0, .int .i64 z5_1, .int .i64 z5_2, .int .i64 z5_3, .int .i64 z5_4, .int .i64 z5_5, .int .i64 z5_6, .int .i64 z5_7, .int .i64 z5_8, .int .i64 z5_9, .int .i64 z5_10, .slice A5 i5 c5, .int .i64 0, .int .i64 0, .int .i64 0, .slice none 0 0]) := hB
                      have hBw := hB
                      have hRd := Lib.hid hrow.drew
                      clear hB hrow hK
                      go_wp2_with fail
                      refine wp_region_noPanic ?_
                      refine wp_region_held_drew (S := fun _ => True) (by kernel_rfl) trivial (fun hHeld => ?_)
                      refine wpAnyH_take (i := 0) (oi := ⟨some 178, _, _, _, _, _⟩) (v := ?_) rfl (by kernel_rfl) (by kernel_rfl) (by kernel_rfl) (fun _ _ _ h => h) (Or.inl ⟨by rfl, ?_⟩) hHeld ?_
                      rotate_left
                      · intro ww hSw
                        (try dsimp only at hSw)
                        go_simp
                        (try with_reducible rfl)
                      simp only [Act.put, List.setIfInBounds_toArray, List.set_cons_zero, List.set_cons_succ]
                      refine wpAnyH_take (i := 2) (oi := ⟨some 180, _, _, _, _, _⟩) (v := ?_) rfl (by kernel_rfl) (by kernel_rfl) (by kernel_rfl) (fun _ _ _ h => h) (Or.inl ⟨by rfl, ?_⟩) hHeld ?_
                      rotate_left
                      · intro ww hSw
                        (try dsimp only at hSw)
                        go_simp
                        (try with_reducible rfl)
                      simp only [Act.put, List.setIfInBounds_toArray, List.set_cons_zero, List.set_cons_succ]
                      refine wpAnyH_take (i := 3) (oi := ⟨some 181, _, _, _, _, _⟩) (v := ?_) rfl (by kernel_rfl) (by kernel_rfl) (by kernel_rfl) (fun _ _ _ h => h) (Or.inl ⟨by rfl, ?_⟩) hHeld ?_
                      rotate_left
                      · intro ww hSw
                        (try dsimp only at hSw)
                        go_simp
                        (try with_reducible rfl)
                      simp only [Act.put, List.setIfInBounds_toArray, List.set_cons_zero, List.set_cons_succ]
                      refine wpAnyH_ready (rs := [1, 4]) (by kernel_rfl) (by simp) ?_
                      refine AllReadyH.cons (o := ⟨some 179, _, _, _, _, _⟩) rfl (fun K hK => ?_) (AllReadyH.cons (o := ⟨some 182, _, _, _, _, _⟩) rfl (fun K hK => ?_) AllReadyH.nil)
                      · skip
                        have hcl := Has.cell (hBw.out) 18 rfl
                        have hcs := cell_lt hcl
                        go_simp
                        refine hK.out _ _ trivial (fun hHeld => ?_)
                        clear hK K
                        (try simp only [Act.put, List.setIfInBounds_toArray, List.set_cons_zero, List.set_cons_succ])
                        refine wpAnyH_ready (rs := [4]) (by kernel_rfl) (by simp) ?_
                        refine AllReadyH.cons (o := ⟨some 182, _, _, _, _, _⟩) rfl (fun K hK => ?_) AllReadyH.nil
                        go_simp
                        go_at_call 34
                        refine (HA0.out _ hKd).mono ?_
                        rintro e_r u_ ⟨rfl, rfl⟩
                        go_wp2_with fail
                        refine hK.out _ _ trivial (fun hHeld => ?_)
                        clear hK K
                        (try simp only [Act.put, List.setIfInBounds_toArray, List.set_cons_zero, List.set_cons_succ])
                        refine wpAnyH_ready (rs := [5]) (by kernel_rfl) (by simp) ?_
                        refine AllReadyH.cons (o := ⟨some 183, _, _, _, _, _⟩) rfl (fun K hK => ?_) AllReadyH.nil
                        go_simp
                        refine hK.out _ _ trivial (fun hHeld => ?_)
                        clear hK K
                        (try simp only [Act.put, List.setIfInBounds_toArray, List.set_cons_zero, List.set_cons_succ])
                        refine wpAnyH_ready (rs := [6]) (by kernel_rfl) (by simp) ?_
                        refine AllReadyH.cons (o := ⟨some 184, _, _, _, _, _⟩) rfl (fun K hK => ?_) AllReadyH.nil
                        refine trow_lay (w := wr.drew) Try.underlying27 int_info rfl (by omega) (by omega) hRd.out [x0] rfl (by omega) hKd.size ?_
                        intro AN cN wN hr5 hrowN hk5
                        have HB5 := Lib.hid (Has.kept hBd.out hBlt5 hk5)
                        have HB6 : Hid (Has (wN.setCell ⟨B, 18, none⟩ (.slice AN (i5 + 1) cN)) B #[.int .i64 (atL L 0), .slice A j c, .int .i64 x, .int .i64 y, .slice A2 i2 c2, .slice A3 i3 c3, .slice A4 i4 c4, .int .i64 z5_0, .int .i64 z5_1, .int .i64 z5_2, .int .i64 z5_3, .int .i64 z5_4, .int .i64 z5_5, .int .i64 z5_6, .int .i64 z5_7, .int .i64 z5_8, .int .i64 z5_9, .int .i64 z5_10, .slice AN (i5 + 1) cN, .int .i64 0, .int .i64 0, .int .i64 0, .slice none 0 0]) := Lib.hid (by
                          have h := Has.set HB5.out 18 (.slice AN (i5 + 1) cN)
                          simpa only [List.setIfInBounds_toArray, List.set_cons_zero, List.set_cons_succ] using h)
                        have hK6 := fb_set (fb_low hKd hk5) 18 (.slice AN (i5 + 1) cN)
                        have HR5 := Lib.hid hr5
                        clear hr5
                        rw [if_pos (by rfl)]
                        refine wp_append_run HR5.out rfl rfl rfl ?_
                        refine hK.out _ _ trivial (fun hHeld => ?_)
                        clear hK K
                        (try simp only [Act.put, List.setIfInBounds_toArray, List.set_cons_zero, List.set_cons_succ])
                        refine wpAnyH_take (i := 7) (oi := ⟨some 185, _, _, _, _, _⟩) (v := ?_) rfl (by kernel_rfl) (by kernel_rfl) (by kernel_rfl) (fun _ _ _ h => h) (Or.inl ⟨by rfl, ?_⟩) hHeld ?_
                        rotate_left
                        · intro ww hSw
                          (try dsimp only at hSw)
                          go_simp
                          (try with_reducible rfl)
                        simp only [Act.put, List.setIfInBounds_toArray, List.set_cons_zero, List.set_cons_succ]
                        refine wpAnyH_ready (rs := [8]) (by kernel_rfl) (by simp) ?_
                        refine AllReadyH.cons (o := ⟨none, _, _, _, _, _⟩) rfl (fun K hK => ?_) AllReadyH.nil
                        have hcl := Has.cell HB5.out 18 rfl
                        have hfz := Has.frozen HB5.out 18
                        have hcs := cell_lt hcl
                        go_simp
                        refine hK.out _ _ trivial (fun hHeld => ?_)
                        clear hK K
                        (try simp only [Act.put, List.setIfInBounds_toArray, List.set_cons_zero, List.set_cons_succ])
                        refine wpAnyH_done (by kernel_rfl) ?_ _
                        refine NoPanic.normal ?_
                        go_wp2
                        go_roundw
                        case rel => exact ⟨i5 + 1, q5 + 1, AN, cN, _, by omega, by have := hq.out; show _ = _; omega, by go_num, by go_num, HRW, hrowN.set hBlt5 _, HB6, hK6⟩
                        case measure => simp [intOf]; omega
                      · skip
                        go_simp
                        go_at_call 34
                        refine (HA0.out _ hKd).mono ?_
                        rintro e_r u_ ⟨rfl, rfl⟩
                        go_wp2_with fail
                        refine hK.out _ _ trivial (fun hHeld => ?_)
                        clear hK K
                        (try simp only [Act.put, List.setIfInBounds_toArray, List.set_cons_zero, List.set_cons_succ])
                        refine wpAnyH_ready (rs := [1, 5]) (by kernel_rfl) (by simp) ?_
                        refine AllReadyH.cons (o := ⟨some 179, _, _, _, _, _⟩) rfl (fun K hK => ?_) (AllReadyH.cons (o := ⟨some 183, _, _, _, _, _⟩) rfl (fun K hK => ?_) AllReadyH.nil)
                        · skip
                          have hcl := Has.cell (hBw.out) 18 rfl
                          have hcs := cell_lt hcl
                          go_simp
                          refine hK.out _ _ trivial (fun hHeld => ?_)
                          clear hK K
                          (try simp only [Act.put, List.setIfInBounds_toArray, List.set_cons_zero, List.set_cons_succ])
                          refine wpAnyH_ready (rs := [5]) (by kernel_rfl) (by simp) ?_
                          refine AllReadyH.cons (o := ⟨some 183, _, _, _, _, _⟩) rfl (fun K hK => ?_) AllReadyH.nil
                          go_simp
                          refine hK.out _ _ trivial (fun hHeld => ?_)
                          clear hK K
                          (try simp only [Act.put, List.setIfInBounds_toArray, List.set_cons_zero, List.set_cons_succ])
                          refine wpAnyH_ready (rs := [6]) (by kernel_rfl) (by simp) ?_
                          refine AllReadyH.cons (o := ⟨some 184, _, _, _, _, _⟩) rfl (fun K hK => ?_) AllReadyH.nil
                          refine trow_lay (w := wr.drew) Try.underlying27 int_info rfl (by omega) (by omega) hRd.out [x0] rfl (by omega) hKd.size ?_
                          intro AN cN wN hr5 hrowN hk5
                          have HB5 := Lib.hid (Has.kept hBd.out hBlt5 hk5)
                          have HB6 : Hid (Has (wN.setCell ⟨B, 18, none⟩ (.slice AN (i5 + 1) cN)) B #[.int .i64 (atL L 0), .slice A j c, .int .i64 x, .int .i64 y, .slice A2 i2 c2, .slice A3 i3 c3, .slice A4 i4 c4, .int .i64 z5_0, .int .i64 z5_1, .int .i64 z5_2, .int .i64 z5_3, .int .i64 z5_4, .int .i64 z5_5, .int .i64 z5_6, .int .i64 z5_7, .int .i64 z5_8, .int .i64 z5_9, .int .i64 z5_10, .slice AN (i5 + 1) cN, .int .i64 0, .int .i64 0, .int .i64 0, .slice none 0 0]) := Lib.hid (by
                            have h := Has.set HB5.out 18 (.slice AN (i5 + 1) cN)
                            simpa only [List.setIfInBounds_toArray, List.set_cons_zero, List.set_cons_succ] using h)
                          have hK6 := fb_set (fb_low hKd hk5) 18 (.slice AN (i5 + 1) cN)
                          have HR5 := Lib.hid hr5
                          clear hr5
                          rw [if_pos (by rfl)]
                          refine wp_append_run HR5.out rfl rfl rfl ?_
                          refine hK.out _ _ trivial (fun hHeld => ?_)
                          clear hK K
                          (try simp only [Act.put, List.setIfInBounds_toArray, List.set_cons_zero, List.set_cons_succ])
                          refine wpAnyH_take (i := 7) (oi := ⟨some 185, _, _, _, _, _⟩) (v := ?_) rfl (by kernel_rfl) (by kernel_rfl) (by kernel_rfl) (fun _ _ _ h => h) (Or.inl ⟨by rfl, ?_⟩) hHeld ?_
                          rotate_left
                          · intro ww hSw
                            (try dsimp only at hSw)
                            go_simp
                            (try with_reducible rfl)
                          simp only [Act.put, List.setIfInBounds_toArray, List.set_cons_zero, List.set_cons_succ]
                          refine wpAnyH_ready (rs := [8]) (by kernel_rfl) (by simp) ?_
                          refine AllReadyH.cons (o := ⟨none, _, _, _, _, _⟩) rfl (fun K hK => ?_) AllReadyH.nil
                          have hcl := Has.cell HB5.out 18 rfl
                          have hfz := Has.frozen HB5.out 18
                          have hcs := cell_lt hcl
                          go_simp
                          refine hK.out _ _ trivial (fun hHeld => ?_)
                          clear hK K
                          (try simp only [Act.put, List.setIfInBounds_toArray, List.set_cons_zero, List.set_cons_succ])
                          refine wpAnyH_done (by kernel_rfl) ?_ _
                          refine NoPanic.normal ?_
                          go_wp2
                          go_roundw
                          case rel => exact ⟨i5 + 1, q5 + 1, AN, cN, _, by omega, by have := hq.out; show _ = _; omega, by go_num, by go_num, HRW, hrowN.set hBlt5 _, HB6, hK6⟩
                          case measure => simp [intOf]; omega
                        · skip
                          go_simp
                          refine hK.out _ _ trivial (fun hHeld => ?_)
                          clear hK K
                          (try simp only [Act.put, List.setIfInBounds_toArray, List.set_cons_zero, List.set_cons_succ])
                          refine wpAnyH_ready (rs := [1]) (by kernel_rfl) (by simp) ?_
                          refine AllReadyH.cons (o := ⟨some 179, _, _, _, _, _⟩) rfl (fun K hK => ?_) AllReadyH.nil
                          have hcl := Has.cell (hBw.out.alloc (.cells #[.int .i64 x0] 3)) 18 rfl
                          have hcs := cell_lt hcl
                          go_simp
                          refine hK.out _ _ trivial (fun hHeld => ?_)
                          clear hK K
                          (try simp only [Act.put, List.setIfInBounds_toArray, List.set_cons_zero, List.set_cons_succ])
                          refine wpAnyH_ready (rs := [6]) (by kernel_rfl) (by simp) ?_
                          refine AllReadyH.cons (o := ⟨some 184, _, _, _, _, _⟩) rfl (fun K hK => ?_) AllReadyH.nil
                          refine trow_lay (w := wr.drew) Try.underlying27 int_info rfl (by omega) (by omega) hRd.out [x0] rfl (by omega) hKd.size ?_
                          intro AN cN wN hr5 hrowN hk5
                          have HB5 := Lib.hid (Has.kept hBd.out hBlt5 hk5)
                          have HB6 : Hid (Has (wN.setCell ⟨B, 18, none⟩ (.slice AN (i5 + 1) cN)) B #[.int .i64 (atL L 0), .slice A j c, .int .i64 x, .int .i64 y, .slice A2 i2 c2, .slice A3 i3 c3, .slice A4 i4 c4, .int .i64 z5_0, .int .i64 z5_1, .int .i64 z5_2, .int .i64 z5_3, .int .i64 z5_4, .int .i64 z5_5, .int .i64 z5_6, .int .i64 z5_7, .int .i64 z5_8, .int .i64 z5_9, .int .i64 z5_10, .slice AN (i5 + 1) cN, .int .i64 0, .int .i64 0, .int .i64 0, .slice none 0 0]) := Lib.hid (by
                            have h := Has.set HB5.out 18 (.slice AN (i5 + 1) cN)
                            simpa only [List.setIfInBounds_toArray, List.set_cons_zero, List.set_cons_succ] using h)
                          have hK6 := fb_set (fb_low hKd hk5) 18 (.slice AN (i5 + 1) cN)
                          have HR5 := Lib.hid hr5
                          clear hr5
                          rw [if_pos (by rfl)]
                          refine wp_append_run HR5.out rfl rfl rfl ?_
                          refine hK.out _ _ trivial (fun hHeld => ?_)
                          clear hK K
                          (try simp only [Act.put, List.setIfInBounds_toArray, List.set_cons_zero, List.set_cons_succ])
                          refine wpAnyH_take (i := 7) (oi := ⟨some 185, _, _, _, _, _⟩) (v := ?_) rfl (by kernel_rfl) (by kernel_rfl) (by kernel_rfl) (fun _ _ _ h => h) (Or.inl ⟨by rfl, ?_⟩) hHeld ?_
                          rotate_left
                          · intro ww hSw
                            (try dsimp only at hSw)
                            go_simp
                            (try with_reducible rfl)
                          simp only [Act.put, List.setIfInBounds_toArray, List.set_cons_zero, List.set_cons_succ]
                          refine wpAnyH_ready (rs := [8]) (by kernel_rfl) (by simp) ?_
                          refine AllReadyH.cons (o := ⟨none, _, _, _, _, _⟩) rfl (fun K hK => ?_) AllReadyH.nil
                          have hcl := Has.cell HB5.out 18 rfl
                          have hfz := Has.frozen HB5.out 18
                          have hcs := cell_lt hcl
                          go_simp
                          refine hK.out _ _ trivial (fun hHeld => ?_)
                          clear hK K
                          (try simp only [Act.put, List.setIfInBounds_toArray, List.set_cons_zero, List.set_cons_succ])
                          refine wpAnyH_done (by kernel_rfl) ?_ _
                          refine NoPanic.normal ?_
                          go_wp2
                          go_roundw
                          case rel => exact ⟨i5 + 1, q5 + 1, AN, cN, _, by omega, by have := hq.out; show _ = _; omega, by go_num, by go_num, HRW, hrowN.set hBlt5 _, HB6, hK6⟩
                          case measure => simp [intOf]; omega
                    · obtain rfl : i5 = n5 := by omega
                      have e0 : ¬ (0 : Int) < ((i5 - i5 : Nat) : Int) := by omega
                      have HT1k := TRow.keep HT1.out (w' := wr) (fun g hg => hK.block g.block ⟨(TRow.lt HT1.out g hg).2, by have h1 := (TRow.lt HT1.out g hg).1; omega⟩)
                      clear HT1
                      have HT1 := Lib.hid HT1k
                      clear HT1k
                      have HT2k := TRow.keep HT2.out (w' := wr) (fun g hg => hK.block g.block ⟨(TRow.lt HT2.out g hg).2, by have h1 := (TRow.lt HT2.out g hg).1; omega⟩)
                      clear HT2
                      have HT2 := Lib.hid HT2k
                      clear HT2k
                      have HT3k := TRow.keep HT3.out (w' := wr) (fun g hg => hK.block g.block ⟨(TRow.lt HT3.out g hg).2, by have h1 := (TRow.lt HT3.out g hg).1; omega⟩)
                      clear HT3
                      have HT3 := Lib.hid HT3k
                      clear HT3k
                      have HT4k := TRow.keep HT4.out (w' := wr) (fun g hg => hK.block g.block ⟨(TRow.lt HT4.out g hg).2, by have h1 := (TRow.lt HT4.out g hg).1; omega⟩)
                      clear HT4
                      have HT4 := Lib.hid HT4k
                      clear HT4k
                      have HT5 := Lib.hid hrow
                      have hrw5 := hrw
                      have hKw : Kept (FB W0 B) W0 wr := fb_on HKW.out hK
                      have hqb : q5 ≤ 2700 := by have := hq.out; omega
                      have hq5 := hq
                      obtain ⟨X6, rfl⟩ : ∃ W' : World, W' = wr := ⟨_, rfl⟩
                      clear HKW
                      have HKW := Lib.hid hKw
                      have hKs : Kept (FB X6 B) X6 X6 := Kept.refl _ _
                      have HBs := hB
                      have hBx : B < X6.heap.size := Nat.lt_of_lt_of_le hBlt hKw.size
                      clear hKw hrw hB hrow hK hq
                      obtain ⟨z6_0, hz6_0⟩ : ∃ z, atL L (q5 + 0) = z := ⟨_, rfl⟩
                      have HA := Lib.hid (rat_i (c := cl) (HNU.out _ (fb_on HKW.out hKs)) HN.out (q5 : Int) (q5 + 0) (by omega) (by omega) z6_0 hz6_0)
                      have Hz6_0 := Lib.hid hz6_0
                      clear hz6_0
                      go_wp2_with fail
                      refine HA.out.mono ?_
                      rintro e u ⟨rfl, rfl⟩
                      clear HA
                      have rr := Has.cell HBs.out 19 rfl
                      have rf := Has.frozen HBs.out 19
                      have rs := cell_lt rr
                      have HBt : Hid (Has (X6.setCell ⟨B, 19, none⟩ (.int .i64 z6_0)) B #[.int .i64 (atL L 0), .slice A j c, .int .i64 x, .int .i64 y, .slice A2 i2 c2, .slice A3 i3 c3, .slice A4 i4 c4, .int .i64 z5_0, .int .i64 z5_1, .int .i64 z5_2, .int .i64 z5_3, .int .i64 z5_4, .int .i64 z5_5, .int .i64 z5_6, .int .i64 z5_7, .int .i64 z5_8, .int .i64 z5_9, .int .i64 z5_10, .slice A5 i5 c5, .int .i64 z6_0, .int .i64 0, .int .i64 0, .slice none 0 0]) := Lib.hid (by
                        have h := Has.set HBs.out 19 (.int .i64 z6_0)
                        simpa only [List.setIfInBounds_toArray, List.set_cons_zero, List.set_cons_succ] using h)
                      have hKt := fb_set hKs 19 (.int .i64 z6_0)
                      go_wp2_with fail
                      clear rr rf rs HBs hKs
                      obtain ⟨X6_0, hX6_0⟩ : ∃ W', X6.setCell ⟨B, 19, none⟩ (.int .i64 z6_0) = W' := ⟨_, rfl⟩
                      rw [hX6_0] at HBt hKt
                      rw [hX6_0]
                      clear hX6_0
                      have HBs := HBt
                      have hKs := hKt
                      clear HBt hKt
                      have hw1 : IntKind.i64.wrap ((q5 : Int) + 1) = (q5 : Int) + 1 := by rw [IntKind.wrap_i64]; omega
                      obtain ⟨z6_1, hz6_1⟩ : ∃ z, atL L (q5 + 1) = z := ⟨_, rfl⟩
                      have HA := Lib.hid (rat_i (c := cl) (HNU.out _ (fb_on HKW.out hKs)) HN.out ((q5 : Int) + 1) (q5 + 1) (by omega) (by omega) z6_1 hz6_1)
                      have Hz6_1 := Lib.hid hz6_1
                      clear hz6_1
                      go_wp2_with fail
                      refine HA.out.mono ?_
                      rintro e u ⟨rfl, rfl⟩
                      clear HA hw1
                      have rr := Has.cell HBs.out 20 rfl
                      have rf := Has.frozen HBs.out 20
                      have rs := cell_lt rr
                      have HBt : Hid (Has (X6_0.setCell ⟨B, 20, none⟩ (.int .i64 z6_1)) B #[.int .i64 (atL L 0), .slice A j c, .int .i64 x, .int .i64 y, .slice A2 i2 c2, .slice A3 i3 c3, .slice A4 i4 c4, .int .i64 z5_0, .int .i64 z5_1, .int .i64 z5_2, .int .i64 z5_3, .int .i64 z5_4, .int .i64 z5_5, .int .i64 z5_6, .int .i64 z5_7, .int .i64 z5_8, .int .i64 z5_9, .int .i64 z5_10, .slice A5 i5 c5, .int .i64 z6_0, .int .i64 z6_1, .int .i64 0, .slice none 0 0]) := Lib.hid (by
                        have h := Has.set HBs.out 20 (.int .i64 z6_1)
                        simpa only [List.setIfInBounds_toArray, List.set_cons_zero, List.set_cons_succ] using h)
                      have hKt := fb_set hKs 20 (.int .i64 z6_1)
                      go_wp2_with fail
                      clear rr rf rs HBs hKs
                      obtain ⟨X6_1, hX6_1⟩ : ∃ W', X6_0.setCell ⟨B, 20, none⟩ (.int .i64 z6_1) = W' := ⟨_, rfl⟩
                      rw [hX6_1] at HBt hKt
                      rw [hX6_1]
                      clear hX6_1
                      have HBs := HBt
                      have hKs := hKt
                      clear HBt hKt
                      have hw2 : IntKind.i64.wrap ((q5 : Int) + 2) = (q5 : Int) + 2 := by rw [IntKind.wrap_i64]; omega
                      obtain ⟨z6_2, hz6_2⟩ : ∃ z, atL L (q5 + 2) = z := ⟨_, rfl⟩
                      have HA := Lib.hid (rat_i (c := cl) (HNU.out _ (fb_on HKW.out hKs)) HN.out ((q5 : Int) + 2) (q5 + 2) (by omega) (by omega) z6_2 hz6_2)
                      have Hz6_2 := Lib.hid hz6_2
                      clear hz6_2
                      go_wp2_with fail
                      refine HA.out.mono ?_
                      rintro e u ⟨rfl, rfl⟩
                      clear HA hw2
                      have rr := Has.cell HBs.out 21 rfl
                      have rf := Has.frozen HBs.out 21
                      have rs := cell_lt rr
                      have HBt : Hid (Has (X6_1.setCell ⟨B, 21, none⟩ (.int .i64 z6_2)) B #[.int .i64 (atL L 0), .slice A j c, .int .i64 x, .int .i64 y, .slice A2 i2 c2, .slice A3 i3 c3, .slice A4 i4 c4, .int .i64 z5_0, .int .i64 z5_1, .int .i64 z5_2, .int .i64 z5_3, .int .i64 z5_4, .int .i64 z5_5, .int .i64 z5_6, .int .i64 z5_7, .int .i64 z5_8, .int .i64 z5_9, .int .i64 z5_10, .slice A5 i5 c5, .int .i64 z6_0, .int .i64 z6_1, .int .i64 z6_2, .slice none 0 0]) := Lib.hid (by
                        have h := Has.set HBs.out 21 (.int .i64 z6_2)
                        simpa only [List.setIfInBounds_toArray, List.set_cons_zero, List.set_cons_succ] using h)
                      have hKt := fb_set hKs 21 (.int .i64 z6_2)
                      have hw1 : IntKind.i64.wrap ((q5 : Int) + 4) = (q5 : Int) + 4 := by rw [IntKind.wrap_i64]; omega
                      have hw2 : IntKind.i64.wrap ((q5 : Int) + 4 - 1) = (q5 : Int) + 4 - 1 := by rw [IntKind.wrap_i64]; omega
                      go_wp2_with fail
                      clear rr rf rs HBs hKs
                      obtain ⟨X6_2, hX6_2⟩ : ∃ W', X6_1.setCell ⟨B, 21, none⟩ (.int .i64 z6_2) = W' := ⟨_, rfl⟩
                      rw [hX6_2] at HBt hKt
                      rw [hX6_2]
                      clear hX6_2
                      have HBs := HBt
                      have hKs := hKt
                      clear HBt hKt
                      obtain ⟨n6, hn6⟩ : ∃ k, manyL L (q5 + 3) = k := ⟨_, rfl⟩
                      have hm6 := many_le L (q5 + 3)
                      rw [hn6] at hm6
                      have hKw := fb_on HKW.out hKs
                      have HM := Lib.hid (rmany_i (c := cl) (HNU.out _ hKw) HN.out HPO.out ((q5 : Int) + 4 - 1) (q5 + 3) (by omega) (by omega) n6 hn6)
                      have HN6 := Lib.hid hn6
                      clear hn6
                      refine HM.out.mono ?_
                      rintro e u ⟨rfl, rfl⟩
                      clear HM
                      go_wp2_with fail
                      obtain ⟨W6, rfl⟩ : ∃ W' : World, W' = X6_2 := ⟨_, rfl⟩
                      have HT1k := TRow.keep HT1.out (w' := W6) (fun g hg => hKs.block g.block ⟨(TRow.lt HT1.out g hg).2, by have h1 := (TRow.lt HT1.out g hg).1; omega⟩)
                      clear HT1
                      have HT1 := Lib.hid HT1k
                      clear HT1k
                      have HT2k := TRow.keep HT2.out (w' := W6) (fun g hg => hKs.block g.block ⟨(TRow.lt HT2.out g hg).2, by have h1 := (TRow.lt HT2.out g hg).1; omega⟩)
                      clear HT2
                      have HT2 := Lib.hid HT2k
                      clear HT2k
                      have HT3k := TRow.keep HT3.out (w' := W6) (fun g hg => hKs.block g.block ⟨(TRow.lt HT3.out g hg).2, by have h1 := (TRow.lt HT3.out g hg).1; omega⟩)
                      clear HT3
                      have HT3 := Lib.hid HT3k
                      clear HT3k
                      have HT4k := TRow.keep HT4.out (w' := W6) (fun g hg => hKs.block g.block ⟨(TRow.lt HT4.out g hg).2, by have h1 := (TRow.lt HT4.out g hg).1; omega⟩)
                      clear HT4
                      have HT4 := Lib.hid HT4k
                      clear HT4k
                      have HT5k := TRow.keep HT5.out (w' := W6) (fun g hg => hKs.block g.block ⟨(TRow.lt HT5.out g hg).2, by have h1 := (TRow.lt HT5.out g hg).1; omega⟩)
                      clear HT5
                      have HT5 := Lib.hid HT5k
                      clear HT5k
                      have hBlt6 : B < W6.heap.size := Nat.lt_of_lt_of_le hBlt hKw.size
                      clear HKW
                      have HKW := Lib.hid hKw
                      have HNU6 : Hid (∀ wx, Kept (FB W6 B) W6 wx → Nums wx Al L) := fun wx h => HNU.out wx (fb_on HKW.out h)
                      obtain ⟨p6, hp6⟩ : ∃ p', q5 + 4 = p' := ⟨_, rfl⟩
                      have ep6 : (q5 : Int) + 4 = (p6 : Int) := by omega
                      rw [ep6]
                      have hpb6 : p6 ≤ 2704 := by omega
                      have HP6 := Lib.hid hp6
                      clear hp6 ep6 hw1 hw2 hKw hKs hqb
                      have HSt := HBs
                      clear HBs
                      go_loopw [6, 12] (fun vp vi wr => ∃ (i6 q6 : Nat) (A6 : Option Addr) (c6 : Nat) (rows6 : Rows2), i6 ≤ n6 ∧ Hid (q6 = p6 + 2 * i6) ∧ vp = .int .i64 (q6 : Int) ∧ vi = .int .i64 ((n6 - i6 : Nat) : Int) ∧ Hid (rows6 = rowsAt L p6 2 i6) ∧ TRow 74 2 wr W6.heap.size A6 i6 c6 rows6 ∧ Hid (Has wr B #[.int .i64 (atL L 0), .slice A j c, .int .i64 x, .int .i64 y, .slice A2 i2 c2, .slice A3 i3 c3, .slice A4 i4 c4, .int .i64 z5_0, .int .i64 z5_1, .int .i64 z5_2, .int .i64 z5_3, .int .i64 z5_4, .int .i64 z5_5, .int .i64 z5_6, .int .i64 z5_7, .int .i64 z5_8, .int .i64 z5_9, .int .i64 z5_10, .slice A5 i5 c5, .int .i64 z6_0, .int .i64 z6_1, .int .i64 z6_2, .slice A6 i6 c6]) ∧ Kept (FB W6 B) W6 wr) (fun _ vi _ => (intOf vi).toNat)
                      case atStart => exact ⟨0, p6, none, 0, [], by omega, by show _ = _; omega, rfl, rfl, Lib.hid (by simp [rowsAt]), TRow.nil _ _, HSt, Kept.refl _ _⟩
                      case round => as_aux_lemma =>
                        clear HSt
                        obtain ⟨i6, q6, A6, c6, rows6, hi6, hq, rfl, rfl, hrw, hrow, hB, hK⟩ := hrel
                        by_cases hlt : i6 < n6
                        · have e0 : (0 : Int) < ((n6 - i6 : Nat) : Int) := by omega
                          have hqb : q6 ≤ 3000 := by have := hq.out; omega
                          have hwp1 : IntKind.i64.wrap ((q6 : Int) + 1) = (q6 : Int) + 1 := by rw [IntKind.wrap_i64]; omega
                          have hwp2 : IntKind.i64.wrap ((q6 : Int) + 2) = (q6 : Int) + 2 := by rw [IntKind.wrap_i64]; omega
                          have hw1 : IntKind.i64.wrap (((n6 - i6 : Nat) : Int) - 1) = ((n6 - (i6 + 1) : Nat) : Int) := by rw [IntKind.wrap_i64]; omega
                          have HRW : Hid (rows6 ++ [[atL L q6, atL L (q6 + 1)]] = rowsAt L p6 2 (i6 + 1)) := by
                            show _ = _
                            rw [rowsAt_succ, hrw.out]
                            have hp := hq.out
                            subst hp
                            simp [List.range_succ]
                          obtain ⟨x0, hx0⟩ : ∃ x, atL L (q6) = x := ⟨_, rfl⟩
                          obtain ⟨x1, hx1⟩ : ∃ x, atL L (q6 + 1) = x := ⟨_, rfl⟩
                          rw [hx0, hx1] at HRW
                          have HA0 := Lib.hid (fun wx (h : Kept (FB W6 B) W6 wx) => rat_i (c := cl) (HNU6.out wx h) HN.out (q6 : Int) (q6) (by omega) (by omega) x0 hx0)
                          have HA1 := Lib.hid (fun wx (h : Kept (FB W6 B) W6 wx) => rat_i (c := cl) (HNU6.out wx h) HN.out ((q6 : Int) + 1) (q6 + 1) (by omega) (by omega) x1 hx1)
                          clear hx0 hx1 hrw
                          have hKd : Kept (FB W6 B) W6 wr.drew := ⟨hK.os, hK.tape, hK.output, hK.size, hK.block⟩
                          have hBd : Hid (Has wr.drew B #[.int .i64 (atL L 0), .slice A j c, .int .i64 x, .int .i64 y, .slice A2 i2 c2, .slice A3 i3 c3, .slice A4 i4 c4, .int .i64 z5_0, .int .i64 z5_1, .int .i64 z5_2, .int .i64 z5_3, .int .i64 z5_4, .int .i64 z5_5, .int .i64 z5_6, .int .i64 z5_7, .int .i64 z5_8, .int .i64 z5_9, .int .i64 z5_10, .slice A5 i5 c5, .int .i64 z6_0, .int .i64 z6_1, .int .i64 z6_2, .slice A6 i6 c6]) := hB
                          have hBw := hB
                          have hRd := Lib.hid hrow.drew
                          clear hB hrow hK
                          go_wp2_with fail
                          refine wp_region_noPanic ?_
                          refine wp_region_held_drew (S := fun _ => True) (by kernel_rfl) trivial (fun hHeld => ?_)
                          refine wpAnyH_take (i := 0) (oi := ⟨some 212, _, _, _, _, _⟩) (v := ?_) rfl (by kernel_rfl) (by kernel_rfl) (by kernel_rfl) (fun _ _ _ h => h) (Or.inl ⟨by rfl, ?_⟩) hHeld ?_
                          rotate_left
                          · intro ww hSw
                            (try dsimp only at hSw)
                            go_simp
                            (try with_reducible rfl)
                          simp only [Act.put, List.setIfInBounds_toArray, List.set_cons_zero, List.set_cons_succ]
                          refine wpAnyH_take (i := 2) (oi := ⟨some 214, _, _, _, _, _⟩) (v := ?_) rfl (by kernel_rfl) (by kernel_rfl) (by kernel_rfl) (fun _ _ _ h => h) (Or.inl ⟨by rfl, ?_⟩) hHeld ?_
                          rotate_left
                          · intro ww hSw
                            (try dsimp only at hSw)
                            go_simp
                            (try with_reducible rfl)
                          simp only [Act.put, List.setIfInBounds_toArray, List.set_cons_zero, List.set_cons_succ]
                          refine wpAnyH_take (i := 3) (oi := ⟨some 215, _, _, _, _, _⟩) (v := ?_) rfl (by kernel_rfl) (by kernel_rfl) (by kernel_rfl) (fun _ _ _ h => h) (Or.inl ⟨by rfl, ?_⟩) hHeld ?_
                          rotate_left
                          · intro ww hSw
                            (try dsimp only at hSw)
                            go_simp
                            (try with_reducible rfl)
                          simp only [Act.put, List.setIfInBounds_toArray, List.set_cons_zero, List.set_cons_succ]
                          refine wpAnyH_take (i := 5) (oi := ⟨some 217, _, _, _, _, _⟩) (v := ?_) rfl (by kernel_rfl) (by kernel_rfl) (by kernel_rfl) (fun _ _ _ h => h) (Or.inl ⟨by rfl, ?_⟩) hHeld ?_
                          rotate_left
                          · intro ww hSw
                            (try dsimp only at hSw)
                            go_simp
                            (try with_reducible rfl)
                          simp only [Act.put, List.setIfInBounds_toArray, List.set_cons_zero, List.set_cons_succ]
                          refine wpAnyH_take (i := 6) (oi := ⟨some 218, _, _, _, _, _⟩) (v := ?_) rfl (by kernel_rfl) (by kernel_rfl) (by kernel_rfl) (fun _ _ _ h => h) (Or.inl ⟨by rfl, ?_⟩) hHeld ?_
                          rotate_left
                          · intro ww hSw
                            (try dsimp only at hSw)
                            go_simp
                            (try with_reducible rfl)
                          simp only [Act.put, List.setIfInBounds_toArray, List.set_cons_zero, List.set_cons_succ]
                          refine wpAnyH_take (i := 7) (oi := ⟨some 219, _, _, _, _, _⟩) (v := ?_) rfl (by kernel_rfl) (by kernel_rfl) (by kernel_rfl) (fun _ _ _ h => h) (Or.inl ⟨by rfl, ?_⟩) hHeld ?_
                          rotate_left
                          · intro ww hSw
                            (try dsimp only at hSw)
                            go_simp
                            (try with_reducible rfl)
                          simp only [Act.put, List.setIfInBounds_toArray, List.set_cons_zero, List.set_cons_succ]
                          refine wpAnyH_ready (rs := [1, 4]) (by kernel_rfl) (by simp) ?_
                          refine AllReadyH.cons (o := ⟨some 213, _, _, _, _, _⟩) rfl (fun K hK => ?_) (AllReadyH.cons (o := ⟨some 216, _, _, _, _, _⟩) rfl (fun K hK => ?_) AllReadyH.nil)
                          · skip
                            have hcl := Has.cell (hBw.out) 22 rfl
                            have hcs := cell_lt hcl
                            go_simp
                            refine hK.out _ _ trivial (fun hHeld => ?_)
                            clear hK K
                            (try simp only [Act.put, List.setIfInBounds_toArray, List.set_cons_zero, List.set_cons_succ])
                            refine wpAnyH_ready (rs := [4]) (by kernel_rfl) (by simp) ?_
                            refine AllReadyH.cons (o := ⟨some 216, _, _, _, _, _⟩) rfl (fun K hK => ?_) AllReadyH.nil
                            go_simp
                            go_at_call 34
                            refine (HA0.out _ hKd).mono ?_
                            rintro e_r u_ ⟨rfl, rfl⟩
                            go_wp2_with fail
                            refine hK.out _ _ trivial (fun hHeld => ?_)
                            clear hK K
                            (try simp only [Act.put, List.setIfInBounds_toArray, List.set_cons_zero, List.set_cons_succ])
                            refine wpAnyH_ready (rs := [8]) (by kernel_rfl) (by simp) ?_
                            refine AllReadyH.cons (o := ⟨some 220, _, _, _, _, _⟩) rfl (fun K hK => ?_) AllReadyH.nil
                            go_simp
                            go_at_call 34
                            refine (HA1.out _ hKd).mono ?_
                            rintro e_r u_ ⟨rfl, rfl⟩
                            go_wp2_with fail
                            refine hK.out _ _ trivial (fun hHeld => ?_)
                            clear hK K
                            (try simp only [Act.put, List.setIfInBounds_toArray, List.set_cons_zero, List.set_cons_succ])
                            refine wpAnyH_take (i := 9) (oi := ⟨some 221, _, _, _, _, _⟩) (v := ?_) rfl (by kernel_rfl) (by kernel_rfl) (by kernel_rfl) (fun _ _ _ h => h) (Or.inl ⟨by rfl, ?_⟩) hHeld ?_
                            rotate_left
                            · intro ww hSw
                              (try dsimp only at hSw)
                              go_simp
                              (try with_reducible rfl)
                            simp only [Act.put, List.setIfInBounds_toArray, List.set_cons_zero, List.set_cons_succ]
                            refine wpAnyH_ready (rs := [10]) (by kernel_rfl) (by simp) ?_
                            refine AllReadyH.cons (o := ⟨some 222, _, _, _, _, _⟩) rfl (fun K hK => ?_) AllReadyH.nil
                            go_simp
                            refine hK.out _ _ trivial (fun hHeld => ?_)
                            clear hK K
                            (try simp only [Act.put, List.setIfInBounds_toArray, List.set_cons_zero, List.set_cons_succ])
                            refine wpAnyH_ready (rs := [11]) (by kernel_rfl) (by simp) ?_
                            refine AllReadyH.cons (o := ⟨some 223, _, _, _, _, _⟩) rfl (fun K hK => ?_) AllReadyH.nil
                            refine trow_lay (w := wr.drew) Try.underlying28 tier_info rfl (by omega) (by omega) hRd.out [x0, x1] rfl (by omega) hKd.size ?_
                            intro AN cN wN hr5 hrowN hk5
                            have HB5 := Lib.hid (Has.kept hBd.out hBlt6 hk5)
                            have HB6 : Hid (Has (wN.setCell ⟨B, 22, none⟩ (.slice AN (i6 + 1) cN)) B #[.int .i64 (atL L 0), .slice A j c, .int .i64 x, .int .i64 y, .slice A2 i2 c2, .slice A3 i3 c3, .slice A4 i4 c4, .int .i64 z5_0, .int .i64 z5_1, .int .i64 z5_2, .int .i64 z5_3, .int .i64 z5_4, .int .i64 z5_5, .int .i64 z5_6, .int .i64 z5_7, .int .i64 z5_8, .int .i64 z5_9, .int .i64 z5_10, .slice A5 i5 c5, .int .i64 z6_0, .int .i64 z6_1, .int .i64 z6_2, .slice AN (i6 + 1) cN]) := Lib.hid (by
                              have h := Has.set HB5.out 22 (.slice AN (i6 + 1) cN)
                              simpa only [List.setIfInBounds_toArray, List.set_cons_zero, List.set_cons_succ] using h)
                            have hK6 := fb_set (fb_low hKd hk5) 22 (.slice AN (i6 + 1) cN)
                            have HR5 := Lib.hid hr5
                            clear hr5
                            rw [if_pos (by rfl)]
                            refine wp_append_run HR5.out rfl rfl rfl ?_
                            refine hK.out _ _ trivial (fun hHeld => ?_)
                            clear hK K
                            (try simp only [Act.put, List.setIfInBounds_toArray, List.set_cons_zero, List.set_cons_succ])
                            refine wpAnyH_take (i := 12) (oi := ⟨some 224, _, _, _, _, _⟩) (v := ?_) rfl (by kernel_rfl) (by kernel_rfl) (by kernel_rfl) (fun _ _ _ h => h) (Or.inl ⟨by rfl, ?_⟩) hHeld ?_
                            rotate_left
                            · intro ww hSw
                              (try dsimp only at hSw)
                              go_simp
                              (try with_reducible rfl)
                            simp only [Act.put, List.setIfInBounds_toArray, List.set_cons_zero, List.set_cons_succ]
                            refine wpAnyH_ready (rs := [13]) (by kernel_rfl) (by simp) ?_
                            refine AllReadyH.cons (o := ⟨none, _, _, _, _, _⟩) rfl (fun K hK => ?_) AllReadyH.nil
                            have hcl := Has.cell HB5.out 22 rfl
                            have hfz := Has.frozen HB5.out 22
                            have hcs := cell_lt hcl
                            go_simp
                            refine hK.out _ _ trivial (fun hHeld => ?_)
                            clear hK K
                            (try simp only [Act.put, List.setIfInBounds_toArray, List.set_cons_zero, List.set_cons_succ])
                            refine wpAnyH_done (by kernel_rfl) ?_ _
                            refine NoPanic.normal ?_
                            go_wp2
                            go_roundw
                            case rel => exact ⟨i6 + 1, q6 + 2, AN, cN, _, by omega, by have := hq.out; show _ = _; omega, by go_num, by go_num, HRW, hrowN.set hBlt6 _, HB6, hK6⟩
                            case measure => simp [intOf]; omega
                          · skip
                            go_simp
                            go_at_call 34
                            refine (HA0.out _ hKd).mono ?_
                            rintro e_r u_ ⟨rfl, rfl⟩
                            go_wp2_with fail
                            refine hK.out _ _ trivial (fun hHeld => ?_)
                            clear hK K
                            (try simp only [Act.put, List.setIfInBounds_toArray, List.set_cons_zero, List.set_cons_succ])
                            refine wpAnyH_ready (rs := [1, 8]) (by kernel_rfl) (by simp) ?_
                            refine AllReadyH.cons (o := ⟨some 213, _, _, _, _, _⟩) rfl (fun K hK => ?_) (AllReadyH.cons (o := ⟨some 220, _, _, _, _, _⟩) rfl (fun K hK => ?_) AllReadyH.nil)
                            · skip
                              have hcl := Has.cell (hBw.out) 22 rfl
                              have hcs := cell_lt hcl
                              go_simp
                              refine hK.out _ _ trivial (fun hHeld => ?_)
                              clear hK K
                              (try simp only [Act.put, List.setIfInBounds_toArray, List.set_cons_zero, List.set_cons_succ])
                              refine wpAnyH_ready (rs := [8]) (by kernel_rfl) (by simp) ?_
                              refine AllReadyH.cons (o := ⟨some 220, _, _, _, _, _⟩) rfl (fun K hK => ?_) AllReadyH.nil
                              go_simp
                              go_at_call 34
                              refine (HA1.out _ hKd).mono ?_
                              rintro e_r u_ ⟨rfl, rfl⟩
                              go_wp2_with fail
                              refine hK.out _ _ trivial (fun hHeld => ?_)
                              clear hK K
                              (try simp only [Act.put, List.setIfInBounds_toArray, List.set_cons_zero, List.set_cons_succ])
                              refine wpAnyH_take (i := 9) (oi := ⟨some 221, _, _, _, _, _⟩) (v := ?_) rfl (by kernel_rfl) (by kernel_rfl) (by kernel_rfl) (fun _ _ _ h => h) (Or.inl ⟨by rfl, ?_⟩) hHeld ?_
                              rotate_left
                              · intro ww hSw
                                (try dsimp only at hSw)
                                go_simp
                                (try with_reducible rfl)
                              simp only [Act.put, List.setIfInBounds_toArray, List.set_cons_zero, List.set_cons_succ]
                              refine wpAnyH_ready (rs := [10]) (by kernel_rfl) (by simp) ?_
                              refine AllReadyH.cons (o := ⟨some 222, _, _, _, _, _⟩) rfl (fun K hK => ?_) AllReadyH.nil
                              go_simp
                              refine hK.out _ _ trivial (fun hHeld => ?_)
                              clear hK K
                              (try simp only [Act.put, List.setIfInBounds_toArray, List.set_cons_zero, List.set_cons_succ])
                              refine wpAnyH_ready (rs := [11]) (by kernel_rfl) (by simp) ?_
                              refine AllReadyH.cons (o := ⟨some 223, _, _, _, _, _⟩) rfl (fun K hK => ?_) AllReadyH.nil
                              refine trow_lay (w := wr.drew) Try.underlying28 tier_info rfl (by omega) (by omega) hRd.out [x0, x1] rfl (by omega) hKd.size ?_
                              intro AN cN wN hr5 hrowN hk5
                              have HB5 := Lib.hid (Has.kept hBd.out hBlt6 hk5)
                              have HB6 : Hid (Has (wN.setCell ⟨B, 22, none⟩ (.slice AN (i6 + 1) cN)) B #[.int .i64 (atL L 0), .slice A j c, .int .i64 x, .int .i64 y, .slice A2 i2 c2, .slice A3 i3 c3, .slice A4 i4 c4, .int .i64 z5_0, .int .i64 z5_1, .int .i64 z5_2, .int .i64 z5_3, .int .i64 z5_4, .int .i64 z5_5, .int .i64 z5_6, .int .i64 z5_7, .int .i64 z5_8, .int .i64 z5_9, .int .i64 z5_10, .slice A5 i5 c5, .int .i64 z6_0, .int .i64 z6_1, .int .i64 z6_2, .slice AN (i6 + 1) cN]) := Lib.hid (by
                                have h := Has.set HB5.out 22 (.slice AN (i6 + 1) cN)
                                simpa only [List.setIfInBounds_toArray, List.set_cons_zero, List.set_cons_succ] using h)
                              have hK6 := fb_set (fb_low hKd hk5) 22 (.slice AN (i6 + 1) cN)
                              have HR5 := Lib.hid hr5
                              clear hr5
                              rw [if_pos (by rfl)]
                              refine wp_append_run HR5.out rfl rfl rfl ?_
                              refine hK.out _ _ trivial (fun hHeld => ?_)
                              clear hK K
                              (try simp only [Act.put, List.setIfInBounds_toArray, List.set_cons_zero, List.set_cons_succ])
                              refine wpAnyH_take (i := 12) (oi := ⟨some 224, _, _, _, _, _⟩) (v := ?_) rfl (by kernel_rfl) (by kernel_rfl) (by kernel_rfl) (fun _ _ _ h => h) (Or.inl ⟨by rfl, ?_⟩) hHeld ?_
                              rotate_left
                              · intro ww hSw
                                (try dsimp only at hSw)
                                go_simp
                                (try with_reducible rfl)
                              simp only [Act.put, List.setIfInBounds_toArray, List.set_cons_zero, List.set_cons_succ]
                              refine wpAnyH_ready (rs := [13]) (by kernel_rfl) (by simp) ?_
                              refine AllReadyH.cons (o := ⟨none, _, _, _, _, _⟩) rfl (fun K hK => ?_) AllReadyH.nil
                              have hcl := Has.cell HB5.out 22 rfl
                              have hfz := Has.frozen HB5.out 22
                              have hcs := cell_lt hcl
                              go_simp
                              refine hK.out _ _ trivial (fun hHeld => ?_)
                              clear hK K
                              (try simp only [Act.put, List.setIfInBounds_toArray, List.set_cons_zero, List.set_cons_succ])
                              refine wpAnyH_done (by kernel_rfl) ?_ _
                              refine NoPanic.normal ?_
                              go_wp2
                              go_roundw
                              case rel => exact ⟨i6 + 1, q6 + 2, AN, cN, _, by omega, by have := hq.out; show _ = _; omega, by go_num, by go_num, HRW, hrowN.set hBlt6 _, HB6, hK6⟩
                              case measure => simp [intOf]; omega
                            · skip
                              go_simp
                              go_at_call 34
                              refine (HA1.out _ hKd).mono ?_
                              rintro e_r u_ ⟨rfl, rfl⟩
                              go_wp2_with fail
                              refine hK.out _ _ trivial (fun hHeld => ?_)
                              clear hK K
                              (try simp only [Act.put, List.setIfInBounds_toArray, List.set_cons_zero, List.set_cons_succ])
                              refine wpAnyH_take (i := 9) (oi := ⟨some 221, _, _, _, _, _⟩) (v := ?_) rfl (by kernel_rfl) (by kernel_rfl) (by kernel_rfl) (fun _ _ _ h => h) (Or.inl ⟨by rfl, ?_⟩) hHeld ?_
                              rotate_left
                              · intro ww hSw
                                (try dsimp only at hSw)
                                go_simp
                                (try with_reducible rfl)
                              simp only [Act.put, List.setIfInBounds_toArray, List.set_cons_zero, List.set_cons_succ]
                              refine wpAnyH_ready (rs := [1, 10]) (by kernel_rfl) (by simp) ?_
                              refine AllReadyH.cons (o := ⟨some 213, _, _, _, _, _⟩) rfl (fun K hK => ?_) (AllReadyH.cons (o := ⟨some 222, _, _, _, _, _⟩) rfl (fun K hK => ?_) AllReadyH.nil)
                              · skip
                                have hcl := Has.cell (hBw.out) 22 rfl
                                have hcs := cell_lt hcl
                                go_simp
                                refine hK.out _ _ trivial (fun hHeld => ?_)
                                clear hK K
                                (try simp only [Act.put, List.setIfInBounds_toArray, List.set_cons_zero, List.set_cons_succ])
                                refine wpAnyH_ready (rs := [10]) (by kernel_rfl) (by simp) ?_
                                refine AllReadyH.cons (o := ⟨some 222, _, _, _, _, _⟩) rfl (fun K hK => ?_) AllReadyH.nil
                                go_simp
                                refine hK.out _ _ trivial (fun hHeld => ?_)
                                clear hK K
                                (try simp only [Act.put, List.setIfInBounds_toArray, List.set_cons_zero, List.set_cons_succ])
                                refine wpAnyH_ready (rs := [11]) (by kernel_rfl) (by simp) ?_
                                refine AllReadyH.cons (o := ⟨some 223, _, _, _, _, _⟩) rfl (fun K hK => ?_) AllReadyH.nil
                                refine trow_lay (w := wr.drew) Try.underlying28 tier_info rfl (by omega) (by omega) hRd.out [x0, x1] rfl (by omega) hKd.size ?_
                                intro AN cN wN hr5 hrowN hk5
                                have HB5 := Lib.hid (Has.kept hBd.out hBlt6 hk5)
                                have HB6 : Hid (Has (wN.setCell ⟨B, 22, none⟩ (.slice AN (i6 + 1) cN)) B #[.int .i64 (atL L 0), .slice A j c, .int .i64 x, .int .i64 y, .slice A2 i2 c2, .slice A3 i3 c3, .slice A4 i4 c4, .int .i64 z5_0, .int .i64 z5_1, .int .i64 z5_2, .int .i64 z5_3, .int .i64 z5_4, .int .i64 z5_5, .int .i64 z5_6, .int .i64 z5_7, .int .i64 z5_8, .int .i64 z5_9, .int .i64 z5_10, .slice A5 i5 c5, .int .i64 z6_0, .int .i64 z6_1, .int .i64 z6_2, .slice AN (i6 + 1) cN]) := Lib.hid (by
                                  have h := Has.set HB5.out 22 (.slice AN (i6 + 1) cN)
                                  simpa only [List.setIfInBounds_toArray, List.set_cons_zero, List.set_cons_succ] using h)
                                have hK6 := fb_set (fb_low hKd hk5) 22 (.slice AN (i6 + 1) cN)
                                have HR5 := Lib.hid hr5
                                clear hr5
                                rw [if_pos (by rfl)]
                                refine wp_append_run HR5.out rfl rfl rfl ?_
                                refine hK.out _ _ trivial (fun hHeld => ?_)
                                clear hK K
                                (try simp only [Act.put, List.setIfInBounds_toArray, List.set_cons_zero, List.set_cons_succ])
                                refine wpAnyH_take (i := 12) (oi := ⟨some 224, _, _, _, _, _⟩) (v := ?_) rfl (by kernel_rfl) (by kernel_rfl) (by kernel_rfl) (fun _ _ _ h => h) (Or.inl ⟨by rfl, ?_⟩) hHeld ?_
                                rotate_left
                                · intro ww hSw
                                  (try dsimp only at hSw)
                                  go_simp
                                  (try with_reducible rfl)
                                simp only [Act.put, List.setIfInBounds_toArray, List.set_cons_zero, List.set_cons_succ]
                                refine wpAnyH_ready (rs := [13]) (by kernel_rfl) (by simp) ?_
                                refine AllReadyH.cons (o := ⟨none, _, _, _, _, _⟩) rfl (fun K hK => ?_) AllReadyH.nil
                                have hcl := Has.cell HB5.out 22 rfl
                                have hfz := Has.frozen HB5.out 22
                                have hcs := cell_lt hcl
                                go_simp
                                refine hK.out _ _ trivial (fun hHeld => ?_)
                                clear hK K
                                (try simp only [Act.put, List.setIfInBounds_toArray, List.set_cons_zero, List.set_cons_succ])
                                refine wpAnyH_done (by kernel_rfl) ?_ _
                                refine NoPanic.normal ?_
                                go_wp2
                                go_roundw
                                case rel => exact ⟨i6 + 1, q6 + 2, AN, cN, _, by omega, by have := hq.out; show _ = _; omega, by go_num, by go_num, HRW, hrowN.set hBlt6 _, HB6, hK6⟩
                                case measure => simp [intOf]; omega
                              · skip
                                go_simp
                                refine hK.out _ _ trivial (fun hHeld => ?_)
                                clear hK K
                                (try simp only [Act.put, List.setIfInBounds_toArray, List.set_cons_zero, List.set_cons_succ])
                                refine wpAnyH_ready (rs := [1]) (by kernel_rfl) (by simp) ?_
                                refine AllReadyH.cons (o := ⟨some 213, _, _, _, _, _⟩) rfl (fun K hK => ?_) AllReadyH.nil
                                have hcl := Has.cell (hBw.out.alloc (.cells #[.int .i64 x0, .int .i64 x1] 74)) 22 rfl
                                have hcs := cell_lt hcl
                                go_simp
                                refine hK.out _ _ trivial (fun hHeld => ?_)
                                clear hK K
                                (try simp only [Act.put, List.setIfInBounds_toArray, List.set_cons_zero, List.set_cons_succ])
                                refine wpAnyH_ready (rs := [11]) (by kernel_rfl) (by simp) ?_
                                refine AllReadyH.cons (o := ⟨some 223, _, _, _, _, _⟩) rfl (fun K hK => ?_) AllReadyH.nil
                                refine trow_lay (w := wr.drew) Try.underlying28 tier_info rfl (by omega) (by omega) hRd.out [x0, x1] rfl (by omega) hKd.size ?_
                                intro AN cN wN hr5 hrowN hk5
                                have HB5 := Lib.hid (Has.kept hBd.out hBlt6 hk5)
                                have HB6 : Hid (Has (wN.setCell ⟨B, 22, none⟩ (.slice AN (i6 + 1) cN)) B #[.int .i64 (atL L 0), .slice A j c, .int .i64 x, .int .i64 y, .slice A2 i2 c2, .slice A3 i3 c3, .slice A4 i4 c4, .int .i64 z5_0, .int .i64 z5_1, .int .i64 z5_2, .int .i64 z5_3, .int .i64 z5_4, .int .i64 z5_5, .int .i64 z5_6, .int .i64 z5_7, .int .i64 z5_8, .int .i64 z5_9, .int .i64 z5_10, .slice A5 i5 c5, .int .i64 z6_0, .int .i64 z6_1, .int .i64 z6_2, .slice AN (i6 + 1) cN]) := Lib.hid (by
                                  have h := Has.set HB5.out 22 (.slice AN (i6 + 1) cN)
                                  simpa only [List.setIfInBounds_toArray, List.set_cons_zero, List.set_cons_succ] using h)
                                have hK6 := fb_set (fb_low hKd hk5) 22 (.slice AN (i6 + 1) cN)
                                have HR5 := Lib.hid hr5
                                clear hr5
                                rw [if_pos (by rfl)]
                                refine wp_append_run HR5.out rfl rfl rfl ?_
                                refine hK.out _ _ trivial (fun hHeld => ?_)
                                clear hK K
                                (try simp only [Act.put, List.setIfInBounds_toArray, List.set_cons_zero, List.set_cons_succ])
                                refine wpAnyH_take (i := 12) (oi := ⟨some 224, _, _, _, _, _⟩) (v := ?_) rfl (by kernel_rfl) (by kernel_rfl) (by kernel_rfl) (fun _ _ _ h => h) (Or.inl ⟨by rfl, ?_⟩) hHeld ?_
                                rotate_left
                                · intro ww hSw
                                  (try dsimp only at hSw)
                                  go_simp
                                  (try with_reducible rfl)
                                simp only [Act.put, List.setIfInBounds_toArray, List.set_cons_zero, List.set_cons_succ]
                                refine wpAnyH_ready (rs := [13]) (by kernel_rfl) (by simp) ?_
                                refine AllReadyH.cons (o := ⟨none, _, _, _, _, _⟩) rfl (fun K hK => ?_) AllReadyH.nil
                                have hcl := Has.cell HB5.out 22 rfl
                                have hfz := Has.frozen HB5.out 22
                                have hcs := cell_lt hcl
                                go_simp
                                refine hK.out _ _ trivial (fun hHeld => ?_)
                                clear hK K
                                (try simp only [Act.put, List.setIfInBounds_toArray, List.set_cons_zero, List.set_cons_succ])
                                refine wpAnyH_done (by kernel_rfl) ?_ _
                                refine NoPanic.normal ?_
                                go_wp2
                                go_roundw
                                case rel => exact ⟨i6 + 1, q6 + 2, AN, cN, _, by omega, by have := hq.out; show _ = _; omega, by go_num, by go_num, HRW, hrowN.set hBlt6 _, HB6, hK6⟩
                                case measure => simp [intOf]; omega
                        · obtain rfl : i6 = n6 := by omega
                          have e0 : ¬ (0 : Int) < ((i6 - i6 : Nat) : Int) := by omega
                          have HT1k := TRow.keep HT1.out (w' := wr) (fun g hg => hK.block g.block ⟨(TRow.lt HT1.out g hg).2, by have h1 := (TRow.lt HT1.out g hg).1; omega⟩)
                          clear HT1
                          have HT1 := Lib.hid HT1k
                          clear HT1k
                          have HT2k := TRow.keep HT2.out (w' := wr) (fun g hg => hK.block g.block ⟨(TRow.lt HT2.out g hg).2, by have h1 := (TRow.lt HT2.out g hg).1; omega⟩)
                          clear HT2
                          have HT2 := Lib.hid HT2k
                          clear HT2k
                          have HT3k := TRow.keep HT3.out (w' := wr) (fun g hg => hK.block g.block ⟨(TRow.lt HT3.out g hg).2, by have h1 := (TRow.lt HT3.out g hg).1; omega⟩)
                          clear HT3
                          have HT3 := Lib.hid HT3k
                          clear HT3k
                          have HT4k := TRow.keep HT4.out (w' := wr) (fun g hg => hK.block g.block ⟨(TRow.lt HT4.out g hg).2, by have h1 := (TRow.lt HT4.out g hg).1; omega⟩)
                          clear HT4
                          have HT4 := Lib.hid HT4k
                          clear HT4k
                          have HT5k := TRow.keep HT5.out (w' := wr) (fun g hg => hK.block g.block ⟨(TRow.lt HT5.out g hg).2, by have h1 := (TRow.lt HT5.out g hg).1; omega⟩)
                          clear HT5
                          have HT5 := Lib.hid HT5k
                          clear HT5k
                          have HT6 := Lib.hid hrow
                          have hKw : Kept (FB W0 B) W0 wr := fb_on HKW.out hK
                          have HSC : Hid (∀ w', (∀ k, w.heap.size < k → k < wr.heap.size → w'.heap[k]? = wr.heap[k]?) → SetC w' (parseR L) #[.int .i64 (atL L 0), .slice A j c, .int .i64 x, .int .i64 y, .slice A2 i2 c2, .slice A3 i3 c3, .slice A4 i4 c4, .int .i64 z5_0, .int .i64 z5_1, .int .i64 z5_2, .int .i64 z5_3, .int .i64 z5_4, .int .i64 z5_5, .int .i64 z5_6, .int .i64 z5_7, .int .i64 z5_8, .int .i64 z5_9, .int .i64 z5_10, .slice A5 i5 c5, .int .i64 z6_0, .int .i64 z6_1, .int .i64 z6_2, .slice A6 i6 c6] ∧ (parseR L).Fit) := fun w' h =>
                            read_setc HOK.out (TRow.keep HT1.out (fun g hg => h _ (by have h1 := (TRow.lt HT1.out g hg).1; omega) (TRow.lt HT1.out g hg).2)) hrw1.out (TRow.keep HT2.out (fun g hg => h _ (by have h1 := (TRow.lt HT2.out g hg).1; omega) (TRow.lt HT2.out g hg).2)) hrw2.out (TRow.keep HT3.out (fun g hg => h _ (by have h1 := (TRow.lt HT3.out g hg).1; omega) (TRow.lt HT3.out g hg).2)) hrw3.out (TRow.keep HT4.out (fun g hg => h _ (by have h1 := (TRow.lt HT4.out g hg).1; omega) (TRow.lt HT4.out g hg).2)) hrw4.out (TRow.keep HT5.out (fun g hg => h _ (by have h1 := (TRow.lt HT5.out g hg).1; omega) (TRow.lt HT5.out g hg).2)) hrw5.out (TRow.keep HT6.out (fun g hg => h _ (by have h1 := (TRow.lt HT6.out g hg).1; omega) (TRow.lt HT6.out g hg).2)) hrw.out HN1.out HP1.out HN2.out HP2.out hq2.out HN3.out HP3.out hq3.out HN4.out HP4.out hq4.out HN5.out HP5.out hq5.out HN6.out HP6.out HZX.out Hz5_0.out Hz5_1.out Hz5_2.out Hz5_3.out Hz5_4.out Hz5_5.out Hz5_6.out Hz5_7.out Hz5_8.out Hz5_9.out Hz5_10.out Hz6_0.out Hz6_1.out Hz6_2.out
                          have hbw := HBW.out wr hKw
                          have HQ := Lib.hid (HT2K.out wr hKw)
                          have HBY2 := Lib.hid (HBY.out.below hbw)
                          have HBX : Hid (Has wr B #[.int .i64 (atL L 0), .slice A j c, .int .i64 x, .int .i64 y, .slice A2 i2 c2, .slice A3 i3 c3, .slice A4 i4 c4, .int .i64 z5_0, .int .i64 z5_1, .int .i64 z5_2, .int .i64 z5_3, .int .i64 z5_4, .int .i64 z5_5, .int .i64 z5_6, .int .i64 z5_7, .int .i64 z5_8, .int .i64 z5_9, .int .i64 z5_10, .slice A5 i5 c5, .int .i64 z6_0, .int .i64 z6_1, .int .i64 z6_2, .slice A6 i6 c6]) := hB
                          have hNw : w.heap.size < wr.heap.size := HQ.out.size
                          obtain ⟨cs, hcs⟩ : ∃ cs : Array Value, cs = #[.int .i64 (atL L 0), .slice A j c, .int .i64 x, .int .i64 y, .slice A2 i2 c2, .slice A3 i3 c3, .slice A4 i4 c4, .int .i64 z5_0, .int .i64 z5_1, .int .i64 z5_2, .int .i64 z5_3, .int .i64 z5_4, .int .i64 z5_5, .int .i64 z5_6, .int .i64 z5_7, .int .i64 z5_8, .int .i64 z5_9, .int .i64 z5_10, .slice A5 i5 c5, .int .i64 z6_0, .int .i64 z6_1, .int .i64 z6_2, .slice A6 i6 c6] := ⟨_, rfl⟩
                          rw [← hcs] at HSC HBX
                          obtain ⟨y, hy⟩ : ∃ y, parseR L = y := ⟨_, rfl⟩
                          rw [hy] at HSC HRP
                          clear hcs hy HT1 HT2 HT3 HT4 HT5 HT6 hrw1 hrw2 hrw3 hrw4 hrw5 hrw HN1 HP1 HN2 HP2 hq2 HN3 HP3 hq3 HN4 HP4 hq4 HN5 HP5 hq5 HN6 HP6 HZX Hz5_0 Hz5_1 Hz5_2 Hz5_3 Hz5_4 Hz5_5 Hz5_6 Hz5_7 Hz5_8 Hz5_9 Hz5_10 Hz6_0 Hz6_1 Hz6_2 hB hrow hK hKw HKW HBW HT2K HBY HNU HNU1 HNU3 HNU4 HNU5 HNU6 HOK HPO HN hq hBlt hBlt1 hBlt3 hBlt4 hBlt5 hBlt6
                          have hs1 := HSC.out wr (fun _ _ _ => rfl)
                          have HZc := Lib.hid hs1.1.size
                          have HOc := Lib.hid hs1.1.one
                          have HF := Lib.hid hs1.2
                          have HS1 := Lib.hid hs1.1
                          clear hs1
                          by_cases hmay : y.May
                          · have HWr := Lib.hid (rswrite_c HS1.out HF.out _ _ _ (writeE_ok hmay) rfl)
                            have HM := Lib.hid hmay
                            have HR5 : Hid (∀ w4, Below wr.heap.size wr w4 → SetC (w4.setRow w.heap.size cs) y cs) := fun w4 hb4 => (HSC.out _ (fun k h1 h2 => by rw [setRow_other _ _ _ _ (by omega)]; exact hb4.block k h2)).1
                            by_cases he : y.bytes = b
                            · have HR : Hid ((s, E) = (y, (0 : Int))) := by
                                show _ = _
                                rw [← HX.out, HRP.out, if_pos ⟨hmay, he⟩]
                              subst he
                              obtain ⟨n7, hn7⟩ : ∃ k, y.bytes.length = k := ⟨_, rfl⟩
                              rw [hn7] at HWr
                              have HN7 := Lib.hid hn7
                              clear hn7 hmay HRP HX HSC
                              go_wp2_with (refine wpList_load_has (by rfl) _ rfl B rfl cs HBX.out HZc.out ?_)
                              refine HWr.out.mono ?_
                              rintro e w4 ⟨A7, c7, rfl, hr4, hb4⟩
                              have hb5 := bel_on hbw hb4
                              have HB4 := Lib.hid (HBX.out.below hb4)
                              have HQ4 := Lib.hid (HQ.out.below hb4)
                              have hB4 := HB4.out.size
                              have hq4 := HQ4.out.size
                              have HS5 := Lib.hid (HR5.out w4 hb4)
                              have k1 := conv_sl hr4.sl
                              rw [HN7.out] at k1
                              clear HN7
                              have k2 := conv_sl (HBY2.out.below hb4)
                              have k3 : ((txtB y.bytes).toList == (txtB y.bytes).toList) = true := by rw [txt_eq]; simp
                              generalize txtB y.bytes = tb at *
                              clear hr4 HWr hb4 HBX HQ HBY2 HR5
                              go_wp2_with (first | refine wpList_load_has (by rfl) _ rfl B rfl cs HB4.out HZc.out ?_ | refine wpList_store_has rfl _ _ rfl w.heap.size cs rfl rfl z23 HQ4.out rfl HZc.out HOc.out ?_)
                              refine bodyPost_ret (setres_run Try.results11 _ _ w.heap.size cs (.int .i64 0) rfl rfl (has_setRow HQ4.out) HZc.out) rfl ?_
                              obtain ⟨rfl, rfl⟩ := Prod.mk.inj HR.out
                              exact ⟨cs, rfl, HS5.out, below_setRow hb5 (Nat.le_refl _) _⟩
                            · have HR : Hid ((s, E) = (SetP.none, (70 : Int))) := by
                                show _ = _
                                rw [← HX.out, HRP.out, if_neg (fun h => he h.2)]
                              have k3 : ((txtB y.bytes).toList == (txtB b).toList) = false := by rw [txt_eq]; exact decide_eq_false he
                              obtain ⟨n7, hn7⟩ : ∃ k, y.bytes.length = k := ⟨_, rfl⟩
                              rw [hn7] at HWr
                              have HN7 := Lib.hid hn7
                              clear hn7 hmay HRP HX HSC HR5
                              go_wp2_with (refine wpList_load_has (by rfl) _ rfl B rfl cs HBX.out HZc.out ?_)
                              refine HWr.out.mono ?_
                              rintro e w4 ⟨A7, c7, rfl, hr4, hb4⟩
                              have hb5 := bel_on hbw hb4
                              have HB4 := Lib.hid (HBX.out.below hb4)
                              have HQ4 := Lib.hid (HQ.out.below hb4)
                              have hB4 := HB4.out.size
                              have hq4 := HQ4.out.size
                              have k1 := conv_sl hr4.sl
                              rw [HN7.out] at k1
                              clear HN7
                              have k2 := conv_sl (HBY2.out.below hb4)
                              generalize txtB y.bytes = ta at *
                              generalize txtB b = tb at *
                              clear hr4 HWr hb4 HBX HQ HBY2
                              go_wp2_with (refine wpList_store_has rfl _ _ rfl w.heap.size z23 rfl rfl z23 HQ4.out rfl rfl z23_one ?_)
                              refine bodyPost_ret (setres_run Try.results11 _ _ w.heap.size z23 (.int .i64 70) rfl rfl (has_setRow HQ4.out) rfl) rfl ?_
                              obtain ⟨rfl, rfl⟩ := Prod.mk.inj HR.out
                              exact ⟨z23, rfl, ⟨none, none, none, none, none, none, 0, 0, 0, 0, 0, 0, rfl, none_at _⟩, below_setRow hb5 (Nat.le_refl _) _⟩
                          · have HWr := Lib.hid (rswrite_c HS1.out HF.out _ _ _ (writeE_bad hmay) rfl)
                            have HR : Hid ((s, E) = (SetP.none, (70 : Int))) := by
                              show _ = _
                              rw [← HX.out, HRP.out, if_neg (fun h => hmay h.1)]
                            clear hmay HRP HX HSC
                            go_wp2_with (refine wpList_load_has (by rfl) _ rfl B rfl cs HBX.out HZc.out ?_)
                            refine HWr.out.mono ?_
                            rintro e w4 ⟨A7, c7, rfl, hr4, hb4⟩
                            have hb5 := bel_on hbw hb4
                            have HB4 := Lib.hid (HBX.out.below hb4)
                            have HQ4 := Lib.hid (HQ.out.below hb4)
                            have hB4 := HB4.out.size
                            have hq4 := HQ4.out.size
                            clear hr4 HWr hb4 HBX HQ HBY2
                            go_wp2_with (refine wpList_store_has rfl _ _ rfl w.heap.size z23 rfl rfl z23 HQ4.out rfl rfl z23_one ?_)
                            refine bodyPost_ret (setres_run Try.results11 _ _ w.heap.size z23 (.int .i64 70) rfl rfl (has_setRow HQ4.out) rfl) rfl ?_
                            obtain ⟨rfl, rfl⟩ := Prod.mk.inj HR.out
                            exact ⟨z23, rfl, ⟨none, none, none, none, none, none, 0, 0, 0, 0, 0, 0, rfl, none_at _⟩, below_setRow hb5 (Nat.le_refl _) _⟩
end Go.Proofs.Ytdhkfhgggkndoaa
