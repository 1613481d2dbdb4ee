/-
  lumperref07: what the document says of times.
  What event.own tells of a kind: pointers to that kind's own numbers.
  event.Put: an event's bytes behind others.
  event.Take's closure: numbers taken off the bytes that are left, each laid at its place.
  event.Take: the event that bytes begin with.
-/
import Derived.Test.YtdlimgpmmkcgmaaGreatZak
import Derived.Deep.DeepCutAuto
import Derived.Test.YtdlimgpmmkcgmaaGreatZai
import Derived.Test.YtdlimgpmmkcgmaaGreatZaf
import Derived.Test.YtdlimgpmmkcgmaaGreatZae
import Derived.IntWalk
import Derived.Test.YtdlimgpmmkcgmaaGreatZab
import Derived.RegionTactic
import Derived.Test.YtdlimgpmmkcgmaaGreatProg
import Derived.Test.YtdlimgpmmkcgmaaGreatZac
import Derived.OpenShut
import Derived.Laws.Cover1
import Derived.Test.YtdlimgpmmkcgmaaGreatZaa
import Derived.WalkKit
import Derived.WalkLawsBesides
import Derived.Lib.Hide
import Derived.Lib.SliceRun
import Derived.WalkMore
import Derived.ScopeJumps
import Derived.StillTailTactics
import Derived.Laws.Tables
import Derived.Laws.CopyOwn
import Derived.Shelf.Abstract
namespace Go.Proofs.YtdlimgpmmkcgmaaGreat
open Go.RowKit
set_option linter.unusedVariables false
set_option linter.unusedSimpArgs false
set_option maxRecDepth 20000

def rtimesB (s : SetP) : Bool := withB s.allow 0 100 && (withB s.unit 1 3600 && (withB s.cap 60 57600 && (withB s.paid 0 86400 && (withB s.aft 0 86400 && withB s.brk 0 86400) && (withB s.nfrom 0 86400 && (withB s.nto 0 86400 && withB s.fault 0 86400)) && withB s.reg 0 s.over && decide (s.over ≤ 86400) && withB s.week 0 604800)))
set_option maxHeartbeats 8000000 in
theorem rtimes_c {w : World} {s : SetP} {cs : Array Value} (h : SetC w s cs) (q : Bool) (hq : rtimesB s = q) :
    Calls Tryz.prog 68 #[.agg cs] w fun e w' => e = .returned (.bool q) ∧ Below w.heap.size w w' := by
  obtain ⟨A1, A2, A3, A4, A5, A6, c1, c2, c3, c4, c5, c6, h1, h2⟩ := h
  unfold setV at h1
  injection h1 with h1
  subst h1
  have HQ := Lib.hid hq
  clear h2 hq
  have E : Hid (rtimesB s = (withB s.allow 0 100 && (withB s.unit 1 3600 && (withB s.cap 60 57600 && (withB s.paid 0 86400 && (withB s.aft 0 86400 && withB s.brk 0 86400) && (withB s.nfrom 0 86400 && (withB s.nto 0 86400 && withB s.fault 0 86400)) && withB s.reg 0 s.over && decide (s.over ≤ 86400) && withB s.week 0 604800))))) := rfl
  rw [HQ.out] at E
  have H0 := Lib.hid (fun wx => rwithin_at s.allow 0 100 _ rfl wx)
  have H1 := Lib.hid (fun wx => rwithin_at s.unit 1 3600 _ rfl wx)
  have H2 := Lib.hid (fun wx => rwithin_at s.cap 60 57600 _ rfl wx)
  have H3 := Lib.hid (fun wx => rwithin_at s.paid 0 86400 _ rfl wx)
  have H4 := Lib.hid (fun wx => rwithin_at s.aft 0 86400 _ rfl wx)
  have H5 := Lib.hid (fun wx => rwithin_at s.brk 0 86400 _ rfl wx)
  have H6 := Lib.hid (fun wx => rwithin_at s.nfrom 0 86400 _ rfl wx)
  have H7 := Lib.hid (fun wx => rwithin_at s.nto 0 86400 _ rfl wx)
  have H8 := Lib.hid (fun wx => rwithin_at s.fault 0 86400 _ rfl wx)
  have H9 := Lib.hid (fun wx => rwithin_at s.reg 0 s.over _ rfl wx)
  have H10 := Lib.hid (fun wx => rwithin_at s.week 0 604800 _ rfl wx)
  generalize withB s.allow 0 100 = q0 at *
  generalize withB s.unit 1 3600 = q1 at *
  generalize withB s.cap 60 57600 = q2 at *
  generalize withB s.paid 0 86400 = q3 at *
  generalize withB s.aft 0 86400 = q4 at *
  generalize withB s.brk 0 86400 = q5 at *
  generalize withB s.nfrom 0 86400 = q6 at *
  generalize withB s.nto 0 86400 = q7 at *
  generalize withB s.fault 0 86400 = q8 at *
  generalize withB s.reg 0 s.over = q9 at *
  generalize withB s.week 0 604800 = q10 at *
  clear HQ
  go_enter Tryz.func68, Tryz.ntmps68
  go_wp2_with fail
  refine (H0.out _).mono ?_
  rintro e w_ ⟨rfl, rfl⟩
  cases q0
  · go_wp2
    go_ret
    exact ⟨ret_bool (by have := E.out; simp at this; exact this.symm), by (repeat' (first | with_reducible exact Below.refl _ _ | with_reducible assumption | with_reducible refine bel_alloc ?_ _ | with_reducible refine bel_set ?_ ?_ _ | with_reducible refine below_drewN ?_ _ | with_reducible refine below_drew ?_ | (simp; done) | (simp; omega) | omega))⟩
  go_wp2_with fail
  refine (H1.out _).mono ?_
  rintro e w_ ⟨rfl, rfl⟩
  cases q1
  · go_wp2
    go_ret
    exact ⟨ret_bool (by have := E.out; simp at this; exact this.symm), by (repeat' (first | with_reducible exact Below.refl _ _ | with_reducible assumption | with_reducible refine bel_alloc ?_ _ | with_reducible refine bel_set ?_ ?_ _ | with_reducible refine below_drewN ?_ _ | with_reducible refine below_drew ?_ | (simp; done) | (simp; omega) | omega))⟩
  go_wp2_with fail
  refine (H2.out _).mono ?_
  rintro e w_ ⟨rfl, rfl⟩
  cases q2
  · go_wp2
    go_ret
    exact ⟨ret_bool (by have := E.out; simp at this; exact this.symm), by (repeat' (first | with_reducible exact Below.refl _ _ | with_reducible assumption | with_reducible refine bel_alloc ?_ _ | with_reducible refine bel_set ?_ ?_ _ | with_reducible refine below_drewN ?_ _ | with_reducible refine below_drew ?_ | (simp; done) | (simp; omega) | omega))⟩
  clear H0 H1 H2
  have E2 : Hid (q = (q3 && (q4 && q5) && (q6 && (q7 && q8)) && q9 && decide (s.over ≤ 86400) && q10)) := by
    show _ = _
    have := E.out
    simpa using this
  clear E
  go_upto_region 3 with fail
  go_cut [1, 3] (fun v1 v3 wx => v1 = .pointer (some ⟨w.heap.size, 0, none⟩) ∧ v3 = .bool (q3 && (q4 && q5)) ∧ Hid (wx = w.alloc (.cells #[.int .i64 s.places, .slice A1 s.ways.length c1, .int .i64 s.pn, .int .i64 s.pd, .slice A2 s.elements.length c2, .slice A3 s.classes.length c3, .slice A4 s.gears.length c4, .int .i64 s.allow, .int .i64 s.unit, .int .i64 s.cap, .int .i64 s.paid, .int .i64 s.aft, .int .i64 s.brk, .int .i64 s.reg, .int .i64 s.over, .int .i64 s.week, .int .i64 s.nfrom, .int .i64 s.nto, .slice A5 s.rates.length c5, .int .i64 s.diff, .int .i64 s.least, .int .i64 s.fault, .slice A6 s.tiers.length c6] 30)))
  case first =>
    go_wp2_with fail
    refine (H3.out _).mono ?_
    rintro e w_ ⟨rfl, rfl⟩
    cases q3
    · go_wp2
      go_meet
      exact ⟨rfl, by simp, Lib.hid rfl⟩
    go_wp2_with fail
    refine (H4.out _).mono ?_
    rintro e w_ ⟨rfl, rfl⟩
    cases q4
    · go_wp2
      go_meet
      exact ⟨rfl, by simp, Lib.hid rfl⟩
    go_wp2_with fail
    refine (H5.out _).mono ?_
    rintro e w_ ⟨rfl, rfl⟩
    go_wp2
    go_meet
    exact ⟨rfl, by simp, Lib.hid rfl⟩
  case rest =>
    obtain ⟨rfl, rfl, hx⟩ := hcut
    have hx' := hx.out
    subst hx'
    clear hx H3 H4 H5
    generalize (q3 && (q4 && q5)) = d3 at *
    go_upto_region 4 with fail
    go_cut [1, 3, 4] (fun v1 v3 v4 wx => v1 = .pointer (some ⟨w.heap.size, 0, none⟩) ∧ v3 = .bool d3 ∧ v4 = .bool (q6 && (q7 && q8)) ∧ Hid (wx = w.alloc (.cells #[.int .i64 s.places, .slice A1 s.ways.length c1, .int .i64 s.pn, .int .i64 s.pd, .slice A2 s.elements.length c2, .slice A3 s.classes.length c3, .slice A4 s.gears.length c4, .int .i64 s.allow, .int .i64 s.unit, .int .i64 s.cap, .int .i64 s.paid, .int .i64 s.aft, .int .i64 s.brk, .int .i64 s.reg, .int .i64 s.over, .int .i64 s.week, .int .i64 s.nfrom, .int .i64 s.nto, .slice A5 s.rates.length c5, .int .i64 s.diff, .int .i64 s.least, .int .i64 s.fault, .slice A6 s.tiers.length c6] 30)))
    case first =>
      go_wp2_with fail
      refine (H6.out _).mono ?_
      rintro e w_ ⟨rfl, rfl⟩
      cases q6
      · go_wp2
        go_meet
        exact ⟨rfl, rfl, by simp, Lib.hid rfl⟩
      go_wp2_with fail
      refine (H7.out _).mono ?_
      rintro e w_ ⟨rfl, rfl⟩
      cases q7
      · go_wp2
        go_meet
        exact ⟨rfl, rfl, by simp, Lib.hid rfl⟩
      go_wp2_with fail
      refine (H8.out _).mono ?_
      rintro e w_ ⟨rfl, rfl⟩
      go_wp2
      go_meet
      exact ⟨rfl, rfl, by simp, Lib.hid rfl⟩
    case rest =>
      obtain ⟨rfl, rfl, rfl, hx⟩ := hcut
      have hx' := hx.out
      subst hx'
      clear hx H6 H7 H8
      generalize (q6 && (q7 && q8)) = d4 at *
      cases d3
      · go_wp2
        go_ret
        exact ⟨ret_bool (by rw [E2.out]; simp), by (repeat' (first | with_reducible exact Below.refl _ _ | with_reducible assumption | with_reducible refine bel_alloc ?_ _ | with_reducible refine bel_set ?_ ?_ _ | with_reducible refine below_drewN ?_ _ | with_reducible refine below_drew ?_ | (simp; done) | (simp; omega) | omega))⟩
      cases d4
      · go_wp2
        go_ret
        exact ⟨ret_bool (by rw [E2.out]; simp), by (repeat' (first | with_reducible exact Below.refl _ _ | with_reducible assumption | with_reducible refine bel_alloc ?_ _ | with_reducible refine bel_set ?_ ?_ _ | with_reducible refine below_drewN ?_ _ | with_reducible refine below_drew ?_ | (simp; done) | (simp; omega) | omega))⟩
      go_wp2_with fail
      refine (H9.out _).mono ?_
      rintro e w_ ⟨rfl, rfl⟩
      cases q9
      · go_wp2
        go_ret
        exact ⟨ret_bool (by rw [E2.out]; simp), by (repeat' (first | with_reducible exact Below.refl _ _ | with_reducible assumption | with_reducible refine bel_alloc ?_ _ | with_reducible refine bel_set ?_ ?_ _ | with_reducible refine below_drewN ?_ _ | with_reducible refine below_drew ?_ | (simp; done) | (simp; omega) | omega))⟩
      by_cases ho : s.over ≤ 86400
      · have ho' := Lib.hid (decide_eq_true ho)
        go_wp2_with fail
        refine (H10.out _).mono ?_
        rintro e w_ ⟨rfl, rfl⟩
        go_wp2
        go_ret
        exact ⟨ret_bool (by rw [E2.out, ho'.out]; simp), by (repeat' (first | with_reducible exact Below.refl _ _ | with_reducible assumption | with_reducible refine bel_alloc ?_ _ | with_reducible refine bel_set ?_ ?_ _ | with_reducible refine below_drewN ?_ _ | with_reducible refine below_drew ?_ | (simp; done) | (simp; omega) | omega))⟩
      · have ho' := Lib.hid (decide_eq_false ho)
        go_wp2
        go_ret
        exact ⟨ret_bool (by rw [E2.out, ho'.out]; simp), by (repeat' (first | with_reducible exact Below.refl _ _ | with_reducible assumption | with_reducible refine bel_alloc ?_ _ | with_reducible refine bel_set ?_ ?_ _ | with_reducible refine below_drewN ?_ _ | with_reducible refine below_drew ?_ | (simp; done) | (simp; omega) | omega))⟩
end Go.Proofs.YtdlimgpmmkcgmaaGreat

namespace Go.Proofs.YtdlimgpmmkcgmaaGreat
open Go.RowKit
set_option linter.unusedVariables false
set_option linter.unusedSimpArgs false

/-- A slice value over A reads as pointers into block g, at the places L. -/
def EPtrs (w : World) (A : Option Addr) (g : Nat) (L : List Nat) : Prop := ∀ k, k < L.length → ∃ b off, A = some ⟨b, off, none⟩ ∧ w.cell? ⟨b, off + k, none⟩ = some (ptrV g (L.getD k 0))
section
variable {w w' : World} {A : Option Addr} {g : Nat} {L : List Nat}
theorem EPtrs.keep (h : EPtrs w A g L) (hk : ∀ p : Addr, p.block < w.heap.size → w'.cell? p = w.cell? p) : EPtrs w' A g L := by
  intro k hl
  obtain ⟨b, off, e, hc⟩ := h k hl
  exact ⟨b, off, e, (hk _ (cell_lt hc)).trans hc⟩
theorem EPtrs.below (h : EPtrs w A g L) (hb : Below w.heap.size w w') : EPtrs w' A g L := h.keep fun _ hp => hb.cell hp
theorem EPtrs.alloc (h : EPtrs w A g L) (o : Obj) : EPtrs (w.alloc o) A g L := h.keep fun p hp => World.cell?_alloc_lt w o p hp
theorem EPtrs.drew (h : EPtrs w A g L) : EPtrs w.drew A g L := h
/-- .. and lies at B or behind. -/
def EPtrsN (B : Nat) (w : World) (A : Option Addr) (g : Nat) (L : List Nat) : Prop := ∀ k, k < L.length → ∃ b off, A = some ⟨b, off, none⟩ ∧ B ≤ b ∧ b < w.heap.size ∧ w.cell? ⟨b, off + k, none⟩ = some (ptrV g (L.getD k 0))
theorem EPtrsN.keep {B : Nat} (h : EPtrsN B w A g L) (hs : w.heap.size ≤ w'.heap.size) (hk : ∀ p : Addr, B ≤ p.block → p.block < w.heap.size → w'.cell? p = w.cell? p) : EPtrsN B w' A g L := by
  intro k hl
  obtain ⟨b, off, e, hB, hlt, hc⟩ := h k hl
  exact ⟨b, off, e, hB, by omega, (hk _ hB hlt).trans hc⟩
theorem EPtrsN.below {B : Nat} (h : EPtrsN B w A g L) (hb : Below w.heap.size w w') : EPtrsN B w' A g L := h.keep hb.size fun _ _ hp => hb.cell hp
theorem EPtrsN.drew {B : Nat} (h : EPtrsN B w A g L) : EPtrsN B w.drew A g L := h
end
/-! ### an event's numbers as a list -/
end Go.Proofs.YtdlimgpmmkcgmaaGreat

namespace Go.Proofs.YtdlimgpmmkcgmaaGreat
open Go.RowKit
set_option linter.unusedVariables false
set_option linter.unusedSimpArgs false

/-- Pointers that lie between B and E. -/
def PtrsB (B E : Nat) (w : World) (A : Option Addr) (g : Nat) (L : List Nat) : Prop := ∀ k, k < L.length → ∃ b off, A = some ⟨b, off, none⟩ ∧ B ≤ b ∧ b < E ∧ w.cell? ⟨b, off + k, none⟩ = some (ptrV g (L.getD k 0))
theorem PtrsB.keep {B E : Nat} {w w' : World} {A : Option Addr} {g : Nat} {L : List Nat} (h : PtrsB B E w A g L) (hk : ∀ p : Addr, B ≤ p.block → p.block < E → w'.cell? p = w.cell? p) : PtrsB B E w' A g L := by
  intro k hl
  obtain ⟨b, off, e, hB, hlt, hc⟩ := h k hl
  exact ⟨b, off, e, hB, hlt, (hk _ hB hlt).trans hc⟩
end Go.Proofs.YtdlimgpmmkcgmaaGreat

namespace Go.Proofs.YtdlimgpmmkcgmaaGreat
open Go.RowKit
set_option linter.unusedVariables false
set_option linter.unusedSimpArgs false

/-- What the closure keeps: block g is the event, block R what is left of the bytes. -/
def TakeW (W : World) (g R : Nat) (zs : List Int) (r : List (BitVec 8)) (w : World) : Prop :=
  Below W.heap.size W w ∧ Has w g (ints .i64 zs).toArray ∧ ∃ A c, Has w R #[.slice A r.length c] ∧ Sl 1 W A r.length c (bytesV r) ∧ r.length ≤ c
theorem TakeW.below {W : World} {g R : Nat} {zs : List Int} {r : List (BitVec 8)} {w w' : World} (h : TakeW W g R zs r w) (hb : Below w.heap.size w w') : TakeW W g R zs r w' := by
  obtain ⟨h1, h2, A, c, h3, h4, h5⟩ := h
  exact ⟨bel_on h1 hb, h2.below hb, A, c, h3.below hb, h4, h5⟩
end Go.Proofs.YtdlimgpmmkcgmaaGreat

namespace Go.Proofs.YtdlimgpmmkcgmaaGreat
open Go.RowKit
set_option linter.unusedVariables false
set_option linter.unusedSimpArgs false
set_option maxRecDepth 20000

theorem TakeW.drew {W : World} {g R : Nat} {zs : List Int} {r : List (BitVec 8)} {w : World} (h : TakeW W g R zs r w) : TakeW W g R zs r w.drew := by
  obtain ⟨h1, h2, A, c, h3, h4, h5⟩ := h
  exact ⟨below_drew h1, h2.drew, A, c, h3.drew, h4, h5⟩
theorem TakeW.alloc {W : World} {g R : Nat} {zs : List Int} {r : List (BitVec 8)} {w : World} (h : TakeW W g R zs r w) (o : Obj) : TakeW W g R zs r (w.alloc o) := by
  obtain ⟨h1, h2, A, c, h3, h4, h5⟩ := h
  exact ⟨bel_alloc h1 _, h2.alloc _, A, c, h3.alloc _, h4, h5⟩
end Go.Proofs.YtdlimgpmmkcgmaaGreat
