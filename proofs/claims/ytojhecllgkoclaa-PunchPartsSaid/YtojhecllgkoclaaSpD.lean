/-
  The contracts of package span's functions, continued: Size, Has, First.
-/
import Derived.Test.YtojhecllgkoclaaSpC
import Derived.Deep.DeepCutAuto
namespace Go.Proofs.Ytojhecllgkoclaa
open Go.RowKit
set_option linter.unusedVariables false

/-- Whether a number is one of all time's, and of the spans'. -/
def hasB (xs : List (Int × Int)) (t : Int) : Bool := xs.any fun s => decide (max s.1 0 ≤ t ∧ t < min s.2 32054400)
theorem hasB_iff (xs : List (Int × Int)) (t : Int) : hasB xs t = true ↔ 0 ≤ t ∧ t < 32054400 ∧ In xs t := by
  unfold hasB In
  rw [List.any_eq_true]
  constructor
  · rintro ⟨s, h1, h2⟩
    simp only [decide_eq_true_eq] at h2
    exact ⟨by omega, by omega, s, h1, by omega, by omega⟩
  · rintro ⟨h1, h2, s, h3, h4, h5⟩
    exact ⟨s, h3, by simp only [decide_eq_true_eq]; omega⟩
theorem hasB_snoc (xs : List (Int × Int)) (k : Nat) (t : Int) (h : k < xs.length) : hasB (xs.take (k + 1)) t = (hasB (xs.take k) t || decide (max (xs.getD k (0, 0)).1 0 ≤ t ∧ t < min (xs.getD k (0, 0)).2 32054400)) := by
  unfold hasB
  rw [List.take_succ_eq_append_getElem h, List.any_append]
  simp [List.getD, h]
theorem hasB_hit (xs : List (Int × Int)) (k : Nat) (t : Int) (h : k < xs.length) (hd : decide (max (xs.getD k (0, 0)).1 0 ≤ t ∧ t < min (xs.getD k (0, 0)).2 32054400) = true) : hasB xs t = true := by
  unfold hasB
  rw [List.any_eq_true]
  exact ⟨xs.getD k (0, 0), by simp [List.getD, h], hd⟩

set_option maxHeartbeats 4000000 in
theorem has1_any (x y t : Int) (B : Nat) (w : World) (hB : B < w.heap.size) (hc : w.cell? ⟨B, 0, none⟩ = some (.int .i64 t)) :
    Calls Try.prog 37 #[.agg #[.int .i64 x, .int .i64 y], .pointer (some ⟨B, 0, none⟩)] w fun e w' => e = .returned (.bool (decide (max x 0 ≤ t ∧ t < min y 32054400))) ∧ Below w.heap.size w w' := by
  have HC := Lib.hid hc
  have hne : B ≠ w.heap.size := by omega
  clear hc
  go_enter Try.func37, Try.ntmps37
  go_upto_region 1 with fail
  go_cut [4] (fun s4 wx => ∃ g : Nat, s4 = .pointer (some ⟨g, 0, none⟩) ∧ Has wx g #[.int .i64 (max x 0), .int .i64 (min y 32054400)] ∧ Below w.heap.size w wx)
  case first =>
    go_region_with (first
      | (go_at_call 39; refine (allTime_at _).mono ?_; rintro e w1 ⟨rfl, rfl⟩)
      | (go_at_call 38; refine (common_at _ _ _ _ _).mono ?_; rintro e w2 ⟨rfl, rfl⟩))
    all_goals
      go_wp2_with fail
      go_meet
      refine ⟨_, rfl, ?_, ?_⟩
      · (repeat' (first | with_reducible assumption | ((with_reducible refine Has.new _ _ _ ?_); (first | (with_reducible rfl) | (simp; done))) | with_reducible refine Has.alloc ?_ _ | with_reducible refine Has.drewN ?_ _ | with_reducible refine Has.drew ?_))
      · (repeat' (first | with_reducible exact Below.refl _ _ | with_reducible assumption | with_reducible refine bel_alloc ?_ _ | with_reducible refine bel_set ?_ ?_ _ | with_reducible refine below_drewN ?_ _ | with_reducible refine below_drew ?_ | (simp; done) | (simp; omega) | omega))
  case rest =>
    obtain ⟨g, rfl, hg, hb⟩ := hcut
    have hc := (hb.cell (p := ⟨B, 0, none⟩) hB).trans HC.out
    obtain ⟨c0, c1, _, _⟩ := hg.two
    by_cases g1 : max x 0 ≤ t
    · go_wp2
      go_ret
      exact ⟨ret_bool (by simp [g1]), hb⟩
    · go_wp2
      go_ret
      exact ⟨ret_bool (by simp; omega), hb⟩

def Idx (w : World) (b : Bool) (e : Ending) (w' : World) : Prop := ∃ n : Int, e = .returned (.int .i64 n) ∧ decide (0 ≤ n) = b ∧ Below w.heap.size w w'
theorem index_any (A : Option Addr) (cap : Nat) (xs : List (Int × Int)) (t : Int) (B : Nat) (w : World) (hx : Spans w A xs) (hl : xs.length ≤ 100000000) (hB : B < w.heap.size) (hc : w.cell? ⟨B, 0, none⟩ = some (.int .i64 t)) :
    Calls Try.prog 46 #[.slice A xs.length cap, .func (.func 37) #[] #[.pointer (some ⟨B, 0, none⟩)]] w (Idx w (hasB xs t)) := by
  have HX := Lib.hid hx
  have HC := Lib.hid hc
  have eg : ∀ args w, (callFunc 37 args).run Try.prog w = .ok (.enter 37 args) w := enters_of Try.func37 (by kernel_rfl) rfl
  clear hx hc
  go_enter Try.func46, Try.ntmps46
  go_wp2
  go_loopw [8] (fun i wr => ∃ (k : Nat), k ≤ xs.length ∧ i = .int .i64 k ∧ Hid (hasB (xs.take k) t = false) ∧ Below w.heap.size w wr) (fun i _ => xs.length - (intOf i).toNat)
  case atStart => exact ⟨0, Nat.zero_le _, rfl, rfl, Below.refl _ _⟩
  case round =>
    obtain ⟨k, hk, rfl, hn, hbw⟩ := hrel
    by_cases hlt : k < xs.length
    · obtain ⟨b, off, rfl, hblt, c1, c2⟩ := (HX.out.below hbw).2 k hlt
      have S1 := Lib.hid (hasB_snoc xs k t hlt)
      have S2 := Lib.hid (hasB_hit xs k t hlt)
      generalize xs.getD k (0, 0) = z at *
      obtain ⟨p, q⟩ := z
      simp only [] at c1 c2 S1 S2
      go_wp2_with fail
      refine (has1_any p q t B _ (Nat.lt_of_lt_of_le hB hbw.size) ((hbw.cell (p := ⟨B, 0, none⟩) hB).trans HC.out)).mono ?_
      rintro e w2 ⟨rfl, hb2⟩
      replace hb2 := bel_on hbw hb2
      cases hm : decide (max p 0 ≤ t ∧ t < min q 32054400) with
      | true =>
        have hs' := Lib.hid (S2.out hm)
        clear hm
        go_wp2
        go_ret
        exact ⟨k, rfl, by rw [hs'.out]; simp, hb2⟩
      | false =>
        have hs' : Hid (hasB (xs.take (k + 1)) t = false) := by
          show _ = _
          rw [S1.out, hn.out, hm]; rfl
        clear hm
        go_wp2
        go_roundw
        case rel => exact ⟨k + 1, by omega, by go_num, hs', hb2⟩
        case measure => simp [intOf]; omega
    · obtain rfl : k = xs.length := by omega
      have hs' := hn.out
      rw [List.take_length] at hs'
      have HS := Lib.hid hs'
      clear hn hs'
      go_wp2
      go_ret
      exact ⟨-1, rfl, by rw [HS.out]; simp, hbw⟩
theorem contains_any (A : Option Addr) (cap : Nat) (xs : List (Int × Int)) (t : Int) (B : Nat) (w : World) (hx : Spans w A xs) (hl : xs.length ≤ 100000000) (hB : B < w.heap.size) (hc : w.cell? ⟨B, 0, none⟩ = some (.int .i64 t)) :
    Calls Try.prog 36 #[.slice A xs.length cap, .func (.func 37) #[] #[.pointer (some ⟨B, 0, none⟩)]] w fun e w' => e = .returned (.bool (hasB xs t)) ∧ Below w.heap.size w w' := by
  have hcon := index_any A cap xs t B w hx hl hB hc
  clear hx hc
  generalize hasB xs t = r at *
  go_enter Try.func36, Try.ntmps36
  go_wp2_with fail
  refine hcon.mono ?_
  rintro e w2 ⟨n, rfl, hn, hb⟩
  have HN := Lib.hid hn
  clear hn
  go_wp2
  go_ret
  exact ⟨ret_bool HN.out, hb⟩
theorem has_any (A : Option Addr) (cap : Nat) (xs : List (Int × Int)) (t : Int) (w : World) (hx : Spans w A xs) (hl : xs.length ≤ 100000000) :
    Calls Try.prog 26 #[.slice A xs.length cap, .int .i64 t] w fun e w' => e = .returned (.bool (hasB xs t)) ∧ Below w.heap.size w w' := by
  have HX := Lib.hid hx
  clear hx
  go_enter Try.func26, Try.ntmps26
  go_wp2_with fail
  refine (contains_any A cap xs t w.heap.size _ (HX.out.alloc _) hl (by simp) (by simp)).mono ?_
  rintro e w2 ⟨rfl, hb⟩
  replace hb := bel_on (bel_alloc (Below.refl _ _) _) hb
  go_wp2
  go_ret
  exact ⟨rfl, hb⟩
end Go.Proofs.Ytojhecllgkoclaa
