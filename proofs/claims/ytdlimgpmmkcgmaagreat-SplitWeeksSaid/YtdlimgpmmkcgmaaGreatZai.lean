/-
  Package setup: which ways, and which work, may be.
  event.own: the map that tells where an event's own numbers stand, whatever order it was filled in.
  An argument of type api.Setup, opened: its cells, its lists.
-/
import Derived.Test.YtdlimgpmmkcgmaaGreatZah
import Derived.Deep.DeepCutAuto
import Derived.Test.YtdlimgpmmkcgmaaGreatZae
import Derived.Test.YtdlimgpmmkcgmaaGreatZab
import Derived.RegionTactic
import Derived.Lib.Hide
import Derived.Test.YtdlimgpmmkcgmaaGreatProg
import Derived.Test.YtdlimgpmmkcgmaaGreatZaf
namespace Go.Proofs.YtdlimgpmmkcgmaaGreat
open Go.RowKit
set_option linter.unusedVariables false
set_option linter.unusedSimpArgs false
set_option maxRecDepth 20000

def withB (n a b : Int) : Bool := decide (a ≤ n) && decide (n ≤ b)
theorem within_at (n a b : Int) (w : World) :
    Calls Tryz.prog 80 #[.int .i64 n, .int .i64 a, .int .i64 b] w fun e w' => e = .returned (.bool (withB n a b)) ∧ w = w' := by
  by_cases h : a ≤ n
  · go_enter Tryz.func80, Tryz.ntmps80
    go_wp2
    go_ret
    exact ⟨ret_bool (by simp [withB, h]), rfl⟩
  · go_enter Tryz.func80, Tryz.ntmps80
    go_wp2
    go_ret
    exact ⟨ret_bool (by rw [withB, decide_eq_false (p := a ≤ n) (by omega)]; rfl), rfl⟩
theorem share_any (n d : Int) (w : World) (hn : In64 n) (hd : In64 d) :
    Calls Tryz.prog 85 #[.agg #[.int .i64 n, .int .i64 d]] w fun e w' => e = .returned (.bool (shareB n d)) ∧ Below w.heap.size w w' := by
  have HK := Lib.hid (check_any n d · hn.1 hn.2 hd.1 hd.2)
  have E : Hid (shareB n d = (mayB n d && decide (0 ≤ n))) := rfl
  generalize shareB n d = r at *
  generalize mayB n d = m at *
  cases m with
  | true =>
    go_enter Tryz.func85, Tryz.ntmps85
    go_wp2_with fail
    refine (HK.out _).mono ?_
    rintro e w1 ⟨rfl, hb1⟩
    have hc := (hb1.cell (p := ⟨w.heap.size, 0, none⟩) (by simp)).trans (show _ = some (.int .i64 n) by simp)
    have hz : w.heap.size < w1.heap.size := by have := hb1.size; simp at this; omega
    replace hb1 := bel_on (bel_alloc (Below.refl _ _) _) hb1
    go_wp2
    go_ret
    exact ⟨ret_bool (by rw [E.out]; simp), hb1⟩
  | false =>
    go_enter Tryz.func85, Tryz.ntmps85
    go_wp2_with fail
    refine (HK.out _).mono ?_
    rintro e w1 ⟨rfl, hb1⟩
    replace hb1 := bel_on (bel_alloc (Below.refl _ _) _) hb1
    go_wp2
    go_ret
    exact ⟨ret_bool (by rw [E.out]; simp), hb1⟩
/-! ### Ways -/
theorem place_at (n pl : Int) (B : Nat) (w : World) (h1 : 1 ≤ pl) (h2 : pl ≤ 16) (hc : w.cell? ⟨B, 0, none⟩ = some (.int .i64 pl)) :
    Calls Tryz.prog 79 #[.int .i64 n, .pointer (some ⟨B, 0, none⟩)] w fun e w' => e = .returned (.bool (withB n 0 (pl - 1))) ∧ w = w' := by
  have HW := Lib.hid (within_at n 0 (pl - 1) w)
  have hs := cell_lt hc
  go_enter Tryz.func79, Tryz.ntmps79
  go_wp2_with fail
  refine HW.out.mono ?_
  rintro e w1 ⟨rfl, rfl⟩
  go_wp2
  go_ret
  exact ⟨rfl, rfl⟩
def wayB (pl a b m : Int) : Bool := withB a 0 (pl - 1) && (withB b 0 (pl - 1) && (decide (a ≠ b) && withB m 1 10000))
set_option maxHeartbeats 4000000 in
theorem way_at (a b m pl : Int) (B P : Nat) (w : World) (h1 : 1 ≤ pl) (h2 : pl ≤ 16) (hc : w.cell? ⟨B, 0, none⟩ = some (.int .i64 pl)) (hP : Has w P #[.func (.func 79) #[] #[.pointer (some ⟨B, 0, none⟩)]]) :
    Calls Tryz.prog 82 #[.agg #[.int .i64 a, .int .i64 b, .int .i64 m], .pointer (some ⟨P, 0, none⟩)] w fun e w' => e = .returned (.bool (wayB pl a b m)) ∧ Below w.heap.size w w' := by
  have eg : ∀ args w, (callFunc 79 args).run Tryz.prog w = .ok (.enter 79 args) w := enters_of Tryz.func79 (by kernel_rfl) rfl
  have E : Hid (wayB pl a b m = (withB a 0 (pl - 1) && (withB b 0 (pl - 1) && (decide (a ≠ b) && withB m 1 10000)))) := rfl
  have hp := hP.cell 0 rfl
  have hps := hP.size
  have hs := cell_lt hc
  have hne : P ≠ w.heap.size := by omega
  have hne2 : B ≠ w.heap.size := by simp at hs; omega
  have hc' : ∀ o, (w.alloc o).cell? ⟨B, 0, none⟩ = some (.int .i64 pl) := fun o => (World.cell?_alloc_lt w o _ hs).trans hc
  have HA := Lib.hid (fun o => place_at a pl B (w.alloc o) h1 h2 (hc' o))
  have HB := Lib.hid (fun o => place_at b pl B (w.alloc o) h1 h2 (hc' o))
  have HM := Lib.hid (within_at m 1 10000)
  clear hP hc hc'
  generalize wayB pl a b m = r at *
  generalize withB a 0 (pl - 1) = ra at *
  generalize withB b 0 (pl - 1) = rb at *
  generalize withB m 1 10000 = rm at *
  by_cases hab : a = b
  · have hE := Lib.hid (decide_eq_false (p := a ≠ b) (by simpa using hab))
    subst hab
    cases ra <;> cases rb <;> (go_enter Tryz.func82, Tryz.ntmps82) <;>
      (go_wp2_with fail) <;> (refine (HA.out _).mono ?_) <;> (rintro e w1 ⟨rfl, rfl⟩) <;>
      (go_wp2_with (first
        | (go_at_call 79; refine (HB.out _).mono ?_; rintro e w1 ⟨rfl, rfl⟩)
        | (go_at_call 80; refine (HM.out _).mono ?_; rintro e w1 ⟨rfl, rfl⟩))) <;>
      go_ret <;> exact ⟨ret_bool (by rw [E.out, hE.out]; simp), by (repeat' (first | with_reducible exact Below.refl _ _ | with_reducible assumption | with_reducible refine bel_alloc ?_ _ | with_reducible refine bel_set ?_ ?_ _ | with_reducible refine below_drewN ?_ _ | with_reducible refine below_drew ?_ | (simp; done) | (simp; omega) | omega))⟩
  · have hE := Lib.hid (decide_eq_true (p := a ≠ b) hab)
    cases ra <;> cases rb <;> (go_enter Tryz.func82, Tryz.ntmps82) <;>
      (go_wp2_with fail) <;> (refine (HA.out _).mono ?_) <;> (rintro e w1 ⟨rfl, rfl⟩) <;>
      (go_wp2_with (first
        | (go_at_call 79; refine (HB.out _).mono ?_; rintro e w1 ⟨rfl, rfl⟩)
        | (go_at_call 80; refine (HM.out _).mono ?_; rintro e w1 ⟨rfl, rfl⟩))) <;>
      go_ret <;> exact ⟨ret_bool (by rw [E.out, hE.out]; simp [hab]), by (repeat' (first | with_reducible exact Below.refl _ _ | with_reducible assumption | with_reducible refine bel_alloc ?_ _ | with_reducible refine bel_set ?_ ?_ _ | with_reducible refine below_drewN ?_ _ | with_reducible refine below_drew ?_ | (simp; done) | (simp; omega) | omega))⟩
end Go.Proofs.YtdlimgpmmkcgmaaGreat

namespace Go.Proofs.YtdlimgpmmkcgmaaGreat
open Go.RowKit
set_option linter.unusedVariables false
set_option linter.unusedSimpArgs false

/-- Places in a block. -/
def ptrV (b i : Nat) : Value := .pointer (some ⟨b, i, none⟩)
def nilV : Value := .slice none 0 0
/-- What the map tells, as far as it is filled. -/
def mapF (b1 b2 b3 b4 b5 b6 b7 : Bool) (x y : Value) : Int → Option Value := fun i =>
  if i = 1 then (if b1 then some nilV else none) else if i = 2 then (if b2 then some nilV else none) else if i = 3 then (if b3 then some x else none) else if i = 4 then (if b4 then some y else none) else
  if i = 5 then (if b5 then some nilV else none) else if i = 6 then (if b6 then some nilV else none) else if i = 7 then (if b7 then some nilV else none) else none
def ptrs6 (b : Nat) : Array Value := #[ptrV b 4, ptrV b 5, ptrV b 6, ptrV b 7, ptrV b 8, ptrV b 9]
def ptrs1 (b : Nat) : Array Value := #[ptrV b 10]
/-- A slot that holds a new slice over the cells cs. -/
def NewSl (W : World) (v : Value) (n : Nat) (cs : Array Value) (w : World) : Prop := ∃ g, v = .slice (some ⟨g, 0, none⟩) n n ∧ W.heap.size ≤ g ∧ Has w g cs
section
variable {W w w' : World} {v : Value} {n : Nat} {cs : Array Value}
theorem NewSl.below (h : NewSl W v n cs w) (hb : Below w.heap.size w w') : NewSl W v n cs w' := by
  obtain ⟨g, e, hg, h⟩ := h
  exact ⟨g, e, hg, h.below hb⟩
theorem NewSl.alloc (h : NewSl W v n cs w) (o : Obj) : NewSl W v n cs (w.alloc o) := by
  obtain ⟨g, e, hg, h⟩ := h
  exact ⟨g, e, hg, h.alloc o⟩
end
/-- A slot that holds a map of the call's own, which tells f. -/
def NewMap (W : World) (v : Value) (k : Nat) (f : Int → Option Value) (w : World) : Prop := ∃ m n, v = .map (some m) ∧ W.heap.size ≤ m ∧ n ≤ k ∧ MapI w m n f
/-- What stands while the map is filled: b tells of each operation whether it has come up. -/

structure OwnW (W : World) (g : Nat) (v0 x y v31 v32 : Value) (b0 b1 b2 b21 b22 b26 b27 b28 b29 b30 b31 b32 : Bool) (w : World) : Prop where
  bel : Below W.heap.size W w
  sx : b21 = true → NewSl W x 6 (ptrs6 g) w
  sy : b26 = true → NewSl W y 1 (ptrs1 g) w
  mp : b0 = true → NewMap W v0 (b1.toNat + b2.toNat + b22.toNat + b27.toNat + b28.toNat + b29.toNat + b30.toNat) (mapF b1 b2 b22 b27 b28 b29 b30 x y) w
  u3 : b21 = false → b22 = false
  u4 : b26 = false → b27 = false
  u0 : b0 = false → b1 = false ∧ b2 = false ∧ b22 = false ∧ b27 = false ∧ b28 = false ∧ b29 = false ∧ b30 = false ∧ b31 = false ∧ b32 = false
  u1 : b31 = true → v31 = v0
  u2 : b32 = true → v32 = v0
/-- What own tells. -/
def OwnMap (W : World) (g : Nat) (e : Ending) (w : World) : Prop :=
  ∃ m n p q, e = .returned (.map (some m)) ∧ Below W.heap.size W w ∧ W.heap.size ≤ m ∧ W.heap.size ≤ p ∧ W.heap.size ≤ q ∧ Has w p (ptrs6 g) ∧ Has w q (ptrs1 g) ∧
    MapI w m n (mapF true true true true true true true (.slice (some ⟨p, 0, none⟩) 6 6) (.slice (some ⟨q, 0, none⟩) 1 1))
theorem OwnW.out {W w : World} {g : Nat} {v0 x y v31 v32 : Value} (h : OwnW W g v0 x y v31 v32 true true true true true true true true true true true true w) : OwnMap W g (.returned v32) w := by
  obtain ⟨m, n, e0, hm, hn, hM⟩ := h.mp rfl
  obtain ⟨p, ex, hp, hP⟩ := h.sx rfl
  obtain ⟨q, ey, hq, hQ⟩ := h.sy rfl
  have e2 := h.u2 rfl
  subst e0 ex ey e2
  exact ⟨m, n, p, q, rfl, h.bel, hm, hp, hq, hP, hQ, hM⟩
end Go.Proofs.YtdlimgpmmkcgmaaGreat

namespace Go.Proofs.YtdlimgpmmkcgmaaGreat
open Go.RowKit Go.Deep Go.WideShapes
set_option linter.unusedVariables false
set_option maxRecDepth 20000

theorem nums_at {P : Program} {t : TypeId} {k : Nat} (h : NumsT P t k) (hk : P.cellsOf t = k) : NumsT P t (P.cellsOf t) := by rw [hk]; exact h
theorem numsT_int : NumsT Tryz.prog 3 1 := alli_int Tryz.underlying3
theorem numsT_ratio : NumsT Tryz.prog 24 2 := alli_struct Tryz.underlying24 (by kernel_rfl)
  ⟨rfl, nums_at numsT_int (by kernel_rfl), by kernel_rfl, nums_at numsT_int (by kernel_rfl), by change _ = _; kernel_rfl⟩
theorem numsT_way : NumsT Tryz.prog 102 3 := alli_struct Tryz.underlying102 (by kernel_rfl)
  ⟨rfl, nums_at numsT_int (by kernel_rfl), by kernel_rfl, nums_at numsT_int (by kernel_rfl), by kernel_rfl, nums_at numsT_int (by kernel_rfl), by change _ = _; kernel_rfl⟩
theorem numsT_tier : NumsT Tryz.prog 112 2 := alli_struct Tryz.underlying112 (by kernel_rfl)
  ⟨rfl, nums_at numsT_int (by kernel_rfl), by kernel_rfl, nums_at numsT_int (by kernel_rfl), by change _ = _; kernel_rfl⟩
theorem numsT_element : NumsT Tryz.prog 106 4 := alli_struct Tryz.underlying106 (by kernel_rfl)
  ⟨rfl, nums_at numsT_ratio (by kernel_rfl), by kernel_rfl, nums_at numsT_ratio (by kernel_rfl), by change _ = _; kernel_rfl⟩
theorem setup_open {H : Type} {enc : TypeId × Value → H} {w : World} {r : Reach} {b0 base : Nat} {held : Bool} {v : Value} {d : DataW H} {p : List MemPlace}
    (hv : Value.okWide Tryz.prog w r b0 30 v) (h : DataW.Trod enc Tryz.prog w base (fun _ => true) held 30 v d p) :
    ∃ (s : SetP) (A1 A2 A3 A4 A5 A6 : Option Addr) (c1 c2 c3 c4 c5 c6 : Nat), v = setV s A1 A2 A3 A4 A5 A6 c1 c2 c3 c4 c5 c6 ∧ SetAt w s A1 A2 A3 A4 A5 A6 c1 c2 c3 c4 c5 c6 ∧ s.Fit :=
  open_setup Tryz.underlying30 (by kernel_rfl) (by kernel_rfl) Tryz.underlying3 (by kernel_rfl) Tryz.underlying22 numsT_way (by kernel_rfl) numsT_ratio
    Tryz.underlying25 numsT_element (by kernel_rfl) Tryz.underlying26 numsT_ratio (by kernel_rfl) Tryz.underlying27 Tryz.underlying28 numsT_tier (by kernel_rfl) hv h
end Go.Proofs.YtdlimgpmmkcgmaaGreat
