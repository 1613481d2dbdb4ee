/-
  Package setup: which ways, and which work, may be.
-/
import Derived.Test.YtpgncbhahocmbaaGreatQal
import Derived.Deep.DeepCutAuto
namespace Go.Proofs.YtpgncbhahocmbaaGreat
open Go.RowKit
set_option linter.unusedVariables false
set_option linter.unusedSimpArgs false
set_option maxRecDepth 20000

def withB (n a b : Int) : Bool := decide (a ≤ n) && decide (n ≤ b)
theorem within_at (n a b : Int) (w : World) :
    Calls Tryz.prog 88 #[.int .i64 n, .int .i64 a, .int .i64 b] w fun e w' => e = .returned (.bool (withB n a b)) ∧ w = w' := by
  by_cases h : a ≤ n
  · go_enter Tryz.func88, Tryz.ntmps88
    go_wp2
    go_ret
    exact ⟨ret_bool (by simp [withB, h]), rfl⟩
  · go_enter Tryz.func88, Tryz.ntmps88
    go_wp2
    go_ret
    exact ⟨ret_bool (by rw [withB, decide_eq_false (p := a ≤ n) (by omega)]; rfl), rfl⟩
theorem share_any (n d : Int) (w : World) (hn : In64 n) (hd : In64 d) :
    Calls Tryz.prog 93 #[.agg #[.int .i64 n, .int .i64 d]] w fun e w' => e = .returned (.bool (shareB n d)) ∧ Below w.heap.size w w' := by
  have HK := Lib.hid (check_any n d · hn.1 hn.2 hd.1 hd.2)
  have E : Hid (shareB n d = (mayB n d && decide (0 ≤ n))) := rfl
  generalize shareB n d = r at *
  generalize mayB n d = m at *
  cases m with
  | true =>
    go_enter Tryz.func93, Tryz.ntmps93
    go_wp2_with fail
    refine (HK.out _).mono ?_
    rintro e w1 ⟨rfl, hb1⟩
    have hc := (hb1.cell (p := ⟨w.heap.size, 0, none⟩) (by simp)).trans (show _ = some (.int .i64 n) by simp)
    have hz : w.heap.size < w1.heap.size := by have := hb1.size; simp at this; omega
    replace hb1 := bel_on (bel_alloc (Below.refl _ _) _) hb1
    go_wp2
    go_ret
    exact ⟨ret_bool (by rw [E.out]; simp), hb1⟩
  | false =>
    go_enter Tryz.func93, Tryz.ntmps93
    go_wp2_with fail
    refine (HK.out _).mono ?_
    rintro e w1 ⟨rfl, hb1⟩
    replace hb1 := bel_on (bel_alloc (Below.refl _ _) _) hb1
    go_wp2
    go_ret
    exact ⟨ret_bool (by rw [E.out]; simp), hb1⟩
/-! ### Ways -/
theorem place_at (n pl : Int) (B : Nat) (w : World) (h1 : 1 ≤ pl) (h2 : pl ≤ 16) (hc : w.cell? ⟨B, 0, none⟩ = some (.int .i64 pl)) :
    Calls Tryz.prog 87 #[.int .i64 n, .pointer (some ⟨B, 0, none⟩)] w fun e w' => e = .returned (.bool (withB n 0 (pl - 1))) ∧ w = w' := by
  have HW := Lib.hid (within_at n 0 (pl - 1) w)
  have hs := cell_lt hc
  go_enter Tryz.func87, Tryz.ntmps87
  go_wp2_with fail
  refine HW.out.mono ?_
  rintro e w1 ⟨rfl, rfl⟩
  go_wp2
  go_ret
  exact ⟨rfl, rfl⟩
def wayB (pl a b m : Int) : Bool := withB a 0 (pl - 1) && (withB b 0 (pl - 1) && (decide (a ≠ b) && withB m 1 10000))
set_option maxHeartbeats 4000000 in
theorem way_at (a b m pl : Int) (B P : Nat) (w : World) (h1 : 1 ≤ pl) (h2 : pl ≤ 16) (hc : w.cell? ⟨B, 0, none⟩ = some (.int .i64 pl)) (hP : Has w P #[.func (.func 87) #[] #[.pointer (some ⟨B, 0, none⟩)]]) :
    Calls Tryz.prog 90 #[.agg #[.int .i64 a, .int .i64 b, .int .i64 m], .pointer (some ⟨P, 0, none⟩)] w fun e w' => e = .returned (.bool (wayB pl a b m)) ∧ Below w.heap.size w w' := by
  have eg : ∀ args w, (callFunc 87 args).run Tryz.prog w = .ok (.enter 87 args) w := enters_of Tryz.func87 (by kernel_rfl) rfl
  have E : Hid (wayB pl a b m = (withB a 0 (pl - 1) && (withB b 0 (pl - 1) && (decide (a ≠ b) && withB m 1 10000)))) := rfl
  have hp := hP.cell 0 rfl
  have hps := hP.size
  have hs := cell_lt hc
  have hne : P ≠ w.heap.size := by omega
  have hne2 : B ≠ w.heap.size := by simp at hs; omega
  have hc' : ∀ o, (w.alloc o).cell? ⟨B, 0, none⟩ = some (.int .i64 pl) := fun o => (World.cell?_alloc_lt w o _ hs).trans hc
  have HA := Lib.hid (fun o => place_at a pl B (w.alloc o) h1 h2 (hc' o))
  have HB := Lib.hid (fun o => place_at b pl B (w.alloc o) h1 h2 (hc' o))
  have HM := Lib.hid (within_at m 1 10000)
  clear hP hc hc'
  generalize wayB pl a b m = r at *
  generalize withB a 0 (pl - 1) = ra at *
  generalize withB b 0 (pl - 1) = rb at *
  generalize withB m 1 10000 = rm at *
  by_cases hab : a = b
  · have hE := Lib.hid (decide_eq_false (p := a ≠ b) (by simpa using hab))
    subst hab
    cases ra <;> cases rb <;> (go_enter Tryz.func90, Tryz.ntmps90) <;>
      (go_wp2_with fail) <;> (refine (HA.out _).mono ?_) <;> (rintro e w1 ⟨rfl, rfl⟩) <;>
      (go_wp2_with (first
        | (go_at_call 87; refine (HB.out _).mono ?_; rintro e w1 ⟨rfl, rfl⟩)
        | (go_at_call 88; refine (HM.out _).mono ?_; rintro e w1 ⟨rfl, rfl⟩))) <;>
      go_ret <;> exact ⟨ret_bool (by rw [E.out, hE.out]; simp), by (repeat' (first | with_reducible exact Below.refl _ _ | with_reducible assumption | with_reducible refine bel_alloc ?_ _ | with_reducible refine bel_set ?_ ?_ _ | with_reducible refine below_drewN ?_ _ | with_reducible refine below_drew ?_ | (simp; done) | (simp; omega) | omega))⟩
  · have hE := Lib.hid (decide_eq_true (p := a ≠ b) hab)
    cases ra <;> cases rb <;> (go_enter Tryz.func90, Tryz.ntmps90) <;>
      (go_wp2_with fail) <;> (refine (HA.out _).mono ?_) <;> (rintro e w1 ⟨rfl, rfl⟩) <;>
      (go_wp2_with (first
        | (go_at_call 87; refine (HB.out _).mono ?_; rintro e w1 ⟨rfl, rfl⟩)
        | (go_at_call 88; refine (HM.out _).mono ?_; rintro e w1 ⟨rfl, rfl⟩))) <;>
      go_ret <;> exact ⟨ret_bool (by rw [E.out, hE.out]; simp [hab]), by (repeat' (first | with_reducible exact Below.refl _ _ | with_reducible assumption | with_reducible refine bel_alloc ?_ _ | with_reducible refine bel_set ?_ ?_ _ | with_reducible refine below_drewN ?_ _ | with_reducible refine below_drew ?_ | (simp; done) | (simp; omega) | omega))⟩
end Go.Proofs.YtpgncbhahocmbaaGreat
