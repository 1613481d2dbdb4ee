/-
  The calls whose answers layer 11's document fixes: they are as it says; two lists of numbers that are the same.
  Package night: the hours by night of any day, and how they are put on a day.
  The document's own answer of layer 12: a worker's events, where a session ends, kinds.
  The document's own answer of layer 12: the seconds of parts, of one kind; two lists that are the same.
  The document's own answer of layer 12: sessions.
  What layer 12's laws are walked by: a setup's facts; few.
  What layer 18's laws are walked by: few; what a law carries over its calls.
  Package stream's watch in memory: its block, its two rows, the session that is open; what a step changes.
  Package stream's kinds, flags, and the closure that tells a part.
  Of which event each part is; how many seconds parts have, kind by kind. No program here.
-/
import Derived.Test.YtpgncbhahocmbaaGreatQar
import Derived.Test.YtpgncbhahocmbaaGreatQab
import Derived.Test.YtpgncbhahocmbaaGreatQad
import Derived.Test.YtpgncbhahocmbaaGreatQac
import Derived.Test.YtpgncbhahocmbaaGreatQao
import Derived.Test.YtpgncbhahocmbaaGreatQan
import Derived.Test.YtpgncbhahocmbaaGreatQap
import Derived.Test.YtpgncbhahocmbaaGreatQah
import Derived.Test.YtpgncbhahocmbaaGreatQaa
import Derived.Test.YtpgncbhahocmbaaGreatQai
import Derived.Test.YtpgncbhahocmbaaGreatQak
import Derived.Deep.DeepCutAuto
import Derived.Test.YtpgncbhahocmbaaGreatProg
import Derived.OpenShut
import Derived.Laws.Cover1
import Derived.WalkKit
import Derived.WalkLawsBesides
import Derived.Lib.Hide
import Derived.IntWalk
import Derived.Lib.SliceRun
import Derived.WalkMore
import Derived.ScopeJumps
import Derived.Laws.BytesArg
import Derived.Laws.Slices
import Derived.RegionTactic
import Derived.Lib.SlBytesConst
import Derived.Deep.RegionHeld3
import Derived.Deep.SlicePairs
import Derived.Lib.SmallJoins
import Derived.ChangeArms
namespace Go.Proofs.YtpgncbhahocmbaaGreat
open Go.RowKit
set_option linter.unusedVariables false
set_option linter.unusedSimpArgs false
set_option maxRecDepth 20000

/-- In a walk: a whole setup is read. -/
theorem wpList_load_sp {ops : Array Oper} {rest : List Oper} {o : Oper} {a : Act} {w : World} {Q : Exit → Act → World → Prop} (hgd : Region.wanted o (yielded ops a.tmps) = true) (x : Operand) (ho : o.op = .load 30 x)
    (g : Nat) (hx : a.eval x = .pointer (some ⟨g, 0, none⟩)) (cs : Array Value) (hg : Has w g cs) (hs : cs.size = 23)
    (h : wpList Tryz.prog ops Q rest (a.put o.dst (.agg cs)) w) : wpList Tryz.prog ops Q (o :: rest) a w := by
  refine wpList_step fun K hK => ?_
  rw [if_pos hgd]
  obtain ⟨t, hg⟩ := hg
  exact wp_load_row _ x ho g hx t cs (0, 0) _ hg Tryz.underlying30 rfl (by rw [hs]; kernel_rfl) (hK _ _ h)
theorem round_bel (t u r : Int) (w : World) (hu' : u ≤ 9223372036854775807) (hr : roundP t u = r) : Calls Tryz.prog 129 #[.int .i64 t, .int .i64 u] w fun e w' => e = .returned (.int .i64 r) ∧ Below w.heap.size w w' := by
  subst hr
  refine (round_any t u w hu').mono ?_
  rintro e w' ⟨rfl, n, rfl⟩
  exact ⟨rfl, below_drewN (Below.refl _ _) n⟩
end Go.Proofs.YtpgncbhahocmbaaGreat

namespace Go.Proofs.YtpgncbhahocmbaaGreat
open Go.RowKit
set_option linter.unusedVariables false
set_option linter.unusedSimpArgs false
set_option maxRecDepth 20000

/-! ### A span more -/
theorem Kept.setn {F : Nat → Prop} {a w : World} (h : Kept F a w) {p : Addr} (hp : ¬ F p.block) (v : Value) : Kept F a (w.setCell p v) := by
  refine ⟨h.os, h.tape, h.output, ?_, fun b hb => ?_⟩
  · have := Kept.size h
    simp [World.setCell]
    exact this
  · rw [Below.heap_setCell w p v b (by rintro rfl; exact hp hb)]
    exact h.block b hb
end Go.Proofs.YtpgncbhahocmbaaGreat

namespace Go.Proofs.YtpgncbhahocmbaaGreat
open Go.RowKit
set_option linter.unusedVariables false
set_option linter.unusedSimpArgs false
set_option maxRecDepth 20000

def mayE (pl : Int) (nE nC nG nR : Nat) (e : EvP) : Bool := decide (e.May pl nE nC nG nR)
theorem in_filter (p : EvP → Bool) (S : List EvP) (k : Nat) (h : k < S.length) : (S.take (k + 1)).filter p = (S.take k).filter p ++ (if p (S.getD k EvP.none) = true then [S.getD k EvP.none] else []) := by
  rw [take_snoc_e h, List.filter_append]
  congr 1
  by_cases q : p (S.getD k EvP.none) = true
  · rw [if_pos q, List.filter_cons_of_pos q]; rfl
  · rw [if_neg q, List.filter_cons_of_neg q]; rfl
end Go.Proofs.YtpgncbhahocmbaaGreat

namespace Go.Proofs.YtpgncbhahocmbaaGreat
open Go.RowKit
set_option linter.unusedVariables false
set_option linter.unusedSimpArgs false
set_option maxRecDepth 20000

def SegP.none : SegP := ⟨0, 0, 0, 0, 0⟩
def FlagP.none : FlagP := ⟨0, 0⟩
/-- What a slice of structs of numbers reads as. -/
theorem rows_cell {k : Nat} {w : World} {b off n c : Nat} {t : Rows2} (h : Sl k w (some ⟨b, off, none⟩) n c (ints .i64 t.flatten)) (hl : t.length = n) (hw : ∀ r ∈ t, r.length = k) {i j : Nat} (hi : i < n) (hj : j < k) : w.cell? ⟨b, off + i * k + j, none⟩ = some (.int .i64 ((t.getD i []).getD j 0)) := by
  have hti : i < t.length := by omega
  obtain ⟨_, ⟨h0, _, _⟩ | ⟨ad, e, hc⟩⟩ := h
  · cases h0
  · injection e with e
    subst e
    have hg := rows_get t hw i j hti hj []
    rw [List.append_nil] at hg
    have hlt : k * i + j < t.flatten.length := by
      rw [rows_len t hw]
      have : k * i + k ≤ k * t.length := by rw [← Nat.mul_succ]; exact Nat.mul_le_mul_left k hti
      omega
    have hu : (ints .i64 t.flatten)[k * i + j]? = some (.int .i64 ((t.getD i []).getD j 0)) := by
      rw [ints, List.getElem?_map, List.getElem?_eq_getElem hlt, Option.map_some, ← hg, List.getD_eq_getElem?_getD, List.getElem?_eq_getElem hlt, Option.getD_some]
    have := hc _ _ hu
    rw [tab_add, ← Nat.add_assoc, Nat.mul_comm] at this
    exact this
theorem rows_form {k : Nat} {w : World} {A : Option Addr} {n c : Nat} {t : Rows2} (h : Sl k w A n c (ints .i64 t.flatten)) (hk : 0 < k) (hn : 0 < n) : ∃ b off, A = some ⟨b, off, none⟩ := by
  obtain ⟨hl, ⟨_, h0, _⟩ | ⟨ad, rfl, hc⟩⟩ := h
  · omega
  · have hp : 0 < n * k := Nat.mul_pos hn hk
    obtain ⟨u, hu⟩ : ∃ u, (ints .i64 t.flatten)[0]? = some u := ⟨_, List.getElem?_eq_getElem (by omega)⟩
    have h0 := hc 0 u hu
    obtain ⟨b, off, sp⟩ := ad
    have hsp : sp = none := by simpa [Addr.add] using World.cell?_spot h0
    subst hsp
    exact ⟨b, off, rfl⟩
def Segs (w : World) (A : Option Addr) (n c : Nat) (l : List SegP) : Prop := Sl 5 w A n c (ints .i64 (l.map segL).flatten) ∧ l.length = n
theorem Segs.below {w w' : World} {A : Option Addr} {n c : Nat} {l : List SegP} (h : Segs w A n c l) (hb : Below w.heap.size w w') : Segs w' A n c l := ⟨h.1.below hb, h.2⟩
theorem Segs.form {w : World} {A : Option Addr} {n c : Nat} {l : List SegP} (h : Segs w A n c l) (hn : 0 < n) : ∃ b off, A = some ⟨b, off, none⟩ := rows_form h.1 (by omega) hn
theorem segs_num {w : World} {b off n c : Nat} {l : List SegP} (h : Segs w (some ⟨b, off, none⟩) n c l) {i : Nat} (hi : i < n) (x : SegP) (hx : l.getD i SegP.none = x) :
    w.cell? ⟨b, off + i * 5, none⟩ = some (.int .i64 x.fr) ∧ w.cell? ⟨b, off + i * 5 + 1, none⟩ = some (.int .i64 x.to) ∧ w.cell? ⟨b, off + i * 5 + 2, none⟩ = some (.int .i64 x.kd) ∧ w.cell? ⟨b, off + i * 5 + 3, none⟩ = some (.int .i64 x.id) ∧ w.cell? ⟨b, off + i * 5 + 4, none⟩ = some (.int .i64 x.cd) := by
  have hl := h.2
  have hw : ∀ r ∈ l.map segL, r.length = 5 := fun r hr => by obtain ⟨y, _, rfl⟩ := List.mem_map.1 hr; rfl
  have e : (l.map segL).getD i [] = segL x := by rw [← hx]; simp [List.getD, show i < l.length by omega]
  have g := fun j hj => rows_cell h.1 (by simpa using hl) hw hi (j := j) hj
  rw [e] at g
  exact ⟨g 0 (by omega), g 1 (by omega), g 2 (by omega), g 3 (by omega), g 4 (by omega)⟩
def Flgs (w : World) (A : Option Addr) (n c : Nat) (l : List FlagP) : Prop := Sl 2 w A n c (ints .i64 (l.map flagL).flatten) ∧ l.length = n
theorem Flgs.below {w w' : World} {A : Option Addr} {n c : Nat} {l : List FlagP} (h : Flgs w A n c l) (hb : Below w.heap.size w w') : Flgs w' A n c l := ⟨h.1.below hb, h.2⟩
theorem Flgs.form {w : World} {A : Option Addr} {n c : Nat} {l : List FlagP} (h : Flgs w A n c l) (hn : 0 < n) : ∃ b off, A = some ⟨b, off, none⟩ := rows_form h.1 (by omega) hn
theorem SRow.segs {w : World} {base n c : Nat} {A : Option Addr} {l : List SegP} (h : SRow w base A n c l) (hn : l.length = n) : Segs w A n c l := ⟨Sl.of_own h, hn⟩
theorem FRow.flgs {w : World} {base n c : Nat} {A : Option Addr} {l : List FlagP} (h : FRow w base A n c l) (hn : l.length = n) : Flgs w A n c l := ⟨Sl.of_own h, hn⟩
theorem take_snoc_s {l : List SegP} {i : Nat} (h : i < l.length) : l.take (i + 1) = l.take i ++ [l.getD i SegP.none] := by
  rw [List.take_succ_eq_append_getElem h]
  simp [List.getD, h]
def ofKind (k : Int) (s : SegP) : Bool := decide (s.kd = k)
theorem kind_filter (p : SegP → Bool) (l : List SegP) (k : Nat) (h : k < l.length) : (l.take (k + 1)).filter p = (l.take k).filter p ++ (if p (l.getD k SegP.none) = true then [l.getD k SegP.none] else []) := by
  rw [take_snoc_s h, List.filter_append]
  congr 1
  by_cases q : p (l.getD k SegP.none) = true
  · rw [if_pos q, List.filter_cons_of_pos q]; rfl
  · rw [if_neg q, List.filter_cons_of_neg q]; rfl
end Go.Proofs.YtpgncbhahocmbaaGreat

namespace Go.Proofs.YtpgncbhahocmbaaGreat
open Go.RowKit
set_option linter.unusedVariables false
set_option linter.unusedSimpArgs false
set_option maxRecDepth 20000

theorem STwo.drew {w0 w : World} {A B : Option Addr} {n c m d : Nat} {l : List SegP} {f : List FlagP} (h : STwo w0 w A n c l B m d f) : STwo w0 w.drew A n c l B m d f := ⟨h.a.drew, h.b.drew, h.ne, below_drew h.bel⟩
/-- What a worker's sessions are, of a setup. -/
def itemsOf (s : SetP) (wk : Int) (l : List EvP) : List ItemP := itemsS s.cap none (wevs (mayE s.places s.elements.length s.classes.length s.gears.length s.rates.length) wk l)
def segsOf (s : SetP) (wk : Int) (l : List EvP) : List SegP := if checkB s = true then segsS (fun t => roundP t s.unit) (itemsOf s wk l) else []
def flagsOf (s : SetP) (wk : Int) (l : List EvP) : List FlagP := if checkB s = true then flagsS (itemsOf s wk l) else []
/-- What Of answers. -/
def GivesT (w : World) (S : List SegP) (F : List FlagP) (e : Ending) (w' : World) : Prop :=
  ∃ A c B d, e = .returned (.tuple #[.slice A S.length c, .slice B F.length d]) ∧ STwo w w' A S.length c S B F.length d F
theorem wevs_ok {pl : Int} {nE nC nG nR : Nat} {wk : Int} {l : List EvP} : ∀ x ∈ wevs (mayE pl nE nC nG nR) wk l, x.May pl nE nC nG nR ∧ x.wk = wk ∧ x.kd ≠ 7 ∧ 0 ≤ x.tm ∧ x.tm ≤ 31449599 := fun x hx => by
  have h := ((wevs_mem _ wk l x).1 hx).2
  simp only [ofW, mayE, Bool.and_eq_true, decide_eq_true_eq] at h
  exact ⟨h.1.1, h.1.2, h.2, h.1.1.1.tm⟩
theorem wevs_len (may : EvP → Bool) (wk : Int) (l : List EvP) : (wevs may wk l).length ≤ l.length := by
  unfold wevs
  rw [← sortE_length l]
  exact List.length_filter_le _ _
end Go.Proofs.YtpgncbhahocmbaaGreat

namespace Go.Proofs.YtpgncbhahocmbaaGreat
open Go.RowKit
set_option linter.unusedVariables false
set_option linter.unusedSimpArgs false
set_option maxRecDepth 20000

/-- All that is asked of a setup's cells. -/
structure SetW (w : World) (s : SetP) (cs : Array Value) : Prop where
  c : SetC w s cs
  f : s.Fit
  q : SetS cs s.places s.elements.length s.classes.length s.gears.length s.rates.length
  u : cs[8]? = some (.int .i64 s.unit)
  k : cs[9]? = some (.int .i64 s.cap)
theorem SetW.below {w w' : World} {s : SetP} {cs : Array Value} (h : SetW w s cs) (hb : Below w.heap.size w w') : SetW w' s cs := ⟨h.c.below hb, h.f, h.q, h.u, h.k⟩
theorem setW_of {w : World} {s : SetP} {A1 A2 A3 A4 A5 A6 : Option Addr} {c1 c2 c3 c4 c5 c6 : Nat} {cs : Array Value} (h : setV s A1 A2 A3 A4 A5 A6 c1 c2 c3 c4 c5 c6 = .agg cs) (hs : SetAt w s A1 A2 A3 A4 A5 A6 c1 c2 c3 c4 c5 c6) (hf : s.Fit) : SetW w s cs := by
  have hC : SetC w s cs := ⟨A1, A2, A3, A4, A5, A6, c1, c2, c3, c4, c5, c6, h, hs⟩
  have h' := h
  unfold setV at h'
  injection h' with h'
  have hsz := hC.size
  subst h'
  exact ⟨hC, hf, ⟨hsz, by simp [Value.oneCell'], rfl, ⟨_, _, rfl⟩, ⟨_, _, rfl⟩, ⟨_, _, rfl⟩, ⟨_, _, rfl⟩⟩, rfl, rfl⟩
/-- A setup that has no unit of its own but this one. -/
theorem SetW.size {w : World} {s : SetP} {cs : Array Value} (h : SetW w s cs) : cs.size = 23 := h.q.size
theorem GivesT.two {w w' : World} {S : List SegP} {F : List FlagP} {e : Ending} (h : GivesT w S F e w') : ∃ A c B d, e = .returned (.tuple #[.slice A S.length c, .slice B F.length d]) ∧ Segs w' A S.length c S ∧ Flgs w' B F.length d F ∧ Below w.heap.size w w' := by
  obtain ⟨A, c, B, d, h1, h2⟩ := h
  exact ⟨A, c, B, d, h1, SRow.segs h2.a rfl, FRow.flgs h2.b rfl, h2.bel⟩
theorem segsOf_len (s : SetP) (wk : Int) (l : List EvP) : (segsOf s wk l).length ≤ l.length := by
  unfold segsOf
  split
  · have := segs_len (fun t => roundP t s.unit) (cap := s.cap) (wevs (mayE s.places s.elements.length s.classes.length s.gears.length s.rates.length) wk l) none
    have h2 := wevs_len (mayE s.places s.elements.length s.classes.length s.gears.length s.rates.length) wk l
    unfold itemsOf
    simp only [stN] at this
    omega
  · simp
/-- The items of a setup that may be rise, from 0 on. -/
theorem itemsOf_up {s : SetP} (hM : s.May) (wk : Int) (l : List EvP) : ItemsUp s.cap 0 (itemsOf s wk l) := by
  have hc := hM.cap
  unfold itemsOf
  refine items_up (by omega) _ none 0 0 (Int.le_refl _) (fun b hb => (wevs_ok b hb).2.2.2.1) (risen_times (wevs_risen _ _ _))
theorem segsUp_fit : ∀ {l : List SegP} {lo : Int}, SegsUp lo l → 0 ≤ lo → ∀ s ∈ l, 0 ≤ s.fr ∧ s.fr < s.to
  | [], _, _, _, s, hs => by cases hs
  | x :: r, lo, ⟨h1, h2, h3⟩, h0, s, hs => by
    rcases List.mem_cons.1 hs with rfl | hs
    · exact ⟨by omega, h2⟩
    · exact segsUp_fit h3 (by omega) s hs
theorem segs_top {u : Int} (hu : 1 ≤ u) (hu' : u ≤ 100000000) : ∀ (l : List ItemP), ∀ s ∈ segsS (fun t => roundP t u) l, s.to ≤ 32054400
  | [], s, hs => by cases hs
  | .out e :: r, s, hs => by
    rw [segsS_cons] at hs
    rcases List.mem_append.1 hs with hs | hs
    · cases hs
    · exact segs_top hu hu' r s hs
  | .sess e ins tz fl :: r, s, hs => by
    rw [segsS_cons] at hs
    rcases List.mem_append.1 hs with hs | hs
    · have h1 := parts_win ins _ e (Int.le_refl _) s hs
      have h2 : roundP tz u ≤ 32054400 := by rw [roundP_up hu hu']; omega
      exact Int.le_trans h1.2.2 h2
    · exact segs_top hu hu' r s hs
theorem segsOf_up (s : SetP) (wk : Int) (l : List EvP) : SegsUp 0 (segsOf s wk l) ∧ ∀ x ∈ segsOf s wk l, 0 ≤ x.fr ∧ x.fr < x.to ∧ x.to ≤ 32054400 := by
  unfold segsOf
  split
  · next h =>
    have hM := check_iff.1 h
    have hu := hM.unit
    have h1 := segs_up (roundP_mono hu.1 (by omega)) _ 0 (itemsOf_up hM wk l)
    have h0 : roundP 0 s.unit = 0 := by
      have := roundP_near (t := 0) (u := s.unit) (by omega) (by omega) hu.1 (by omega)
      have h2 := roundP_up (t := 0) hu.1 (by omega)
      have ht : timeP 0 = 0 := by unfold timeP; omega
      rw [ht, Int.zero_ediv, Int.zero_emod, Int.mul_zero, if_neg (by omega)] at h2
      omega
    rw [h0] at h1
    exact ⟨h1, fun x hx => ⟨(segsUp_fit h1 (Int.le_refl _) x hx).1, (segsUp_fit h1 (Int.le_refl _) x hx).2, segs_top hu.1 (by omega) _ x hx⟩⟩
  · exact ⟨trivial, fun x hx => by cases hx⟩
end Go.Proofs.YtpgncbhahocmbaaGreat

namespace Go.Proofs.YtpgncbhahocmbaaGreat
open Go.RowKit
set_option linter.unusedVariables false
set_option linter.unusedSimpArgs false
set_option maxRecDepth 20000

theorem none_in : EvP.none.In := by constructor <;> simp [EvP.none, In64]
/-- What a law carries over its calls: the setup, its variable, the events. -/
structure Dx (w0 w : World) (g : Nat) (s : SetP) (cs : Array Value) (A : Option Addr) (n cp : Nat) (l : List EvP) : Prop where
  b : Below w0.heap.size w0 w
  c : SetW w s cs
  h : Has w g cs
  x : Evs w A n cp l
theorem Dx.below {w0 w w' : World} {g : Nat} {s : SetP} {cs : Array Value} {A : Option Addr} {n c : Nat} {l : List EvP} (h : Dx w0 w g s cs A n c l) (hb : Below w.heap.size w w') : Dx w0 w' g s cs A n c l := ⟨bel_on h.b hb, h.c.below hb, h.h.below hb, h.x.below hb⟩
theorem dx_start {w : World} {s : SetP} {cs : Array Value} {A : Option Addr} {n c : Nat} {l : List EvP} (hc : SetW w s cs) (hx : Evs w A n c l) : Dx w (w.alloc (.cells cs 30)) w.heap.size s cs A n c l :=
  ⟨bel_alloc (Below.refl _ _) _, hc.below (bel_alloc (Below.refl _ _) _), Has.new _ _ _ rfl, hx.below (bel_alloc (Below.refl _ _) _)⟩
set_option maxHeartbeats 2000000 in
theorem few18 (s : SetP) (cs : Array Value) (w : World) (hW : SetW w s cs) (A : Option Addr) (n c : Nat) (b : Bool) (hb : decide (s.Few ∧ n ≤ 60) = b) :
    Calls Tryz.prog 10 #[.agg cs, .slice A n c] w fun e w' => e = .returned (.bool b) ∧ Below w.heap.size w w' := by
  have HZ := Lib.hid hW.size
  have hb0 := bel_alloc (Below.refl w.heap.size w) (.cells cs 30)
  have HB0 := Lib.hid (Has.new w 30 cs rfl)
  cases hF : decide s.Few with
  | false =>
    have HC := Lib.hid (few_c (hW.c.below hb0) false hF)
    have hF' := of_decide_eq_false hF
    obtain rfl : b = false := by rw [← hb, decide_eq_false]; exact fun h => hF' h.1
    clear hW hF hF' hb
    go_enter Tryz.func10, Tryz.ntmps10
    go_wp2_with (refine wpList_exec (o := ⟨some 5, _, _, _, _, _⟩) (by rfl) (exec_load_st _ rfl rfl HB0.out HZ.out) ?_)
    refine HC.out.mono ?_
    rintro e w1 ⟨rfl, b1⟩
    have HB := Lib.hid (bel_on hb0 b1)
    clear b1 hb0
    go_wp2
    go_ret
    exact ⟨rfl, HB.out⟩
  | true =>
    have HC := Lib.hid (few_c (hW.c.below hb0) true hF)
    have hF' := of_decide_eq_true hF
    have hn : decide ((n : Int) ≤ 60) = b := by rw [← hb]; exact decide_eq_decide.2 ⟨fun h => ⟨hF', by omega⟩, fun h => by omega⟩
    clear hW hF hF' hb
    go_enter Tryz.func10, Tryz.ntmps10
    go_wp2_with (refine wpList_exec (o := ⟨some 5, _, _, _, _, _⟩) (by rfl) (exec_load_st _ rfl rfl HB0.out HZ.out) ?_)
    refine HC.out.mono ?_
    rintro e w1 ⟨rfl, b1⟩
    have HB := Lib.hid (bel_on hb0 b1)
    clear b1 hb0
    go_wp2
    go_ret
    exact ⟨by rw [← hn]; rfl, HB.out⟩
end Go.Proofs.YtpgncbhahocmbaaGreat

namespace Go.Proofs.YtpgncbhahocmbaaGreat
open Go.RowKit
set_option linter.unusedVariables false
set_option linter.unusedSimpArgs false
set_option maxRecDepth 20000

def OnB (A : Option Addr) (b : Nat) : Prop := ∃ a, A = some a ∧ a.block = b
/-- What lay at B or behind is as it was, but for the blocks M. -/
def Mv (B : Nat) (M : Nat → Prop) (w w' : World) : Prop := w.heap.size ≤ w'.heap.size ∧ ∀ b, B ≤ b → b < w.heap.size → ¬ M b → w'.heap[b]? = w.heap[b]?
/-- A slice's block is the one that it was, or a new one. -/
def Moved (w : World) (A A' : Option Addr) : Prop := ∀ b, OnB A' b → OnB A b ∨ w.heap.size ≤ b
def Off (A : Option Addr) (b : Nat) : Prop := ∀ a, A = some a → a.block ≠ b
def Offs (A C : Option Addr) : Prop := ∀ x y, A = some x → C = some y → x.block ≠ y.block
theorem Mv.refl (B : Nat) (M : Nat → Prop) (w : World) : Mv B M w w := ⟨Nat.le_refl _, fun _ _ _ _ => rfl⟩
theorem Mv.of_below {B : Nat} {M : Nat → Prop} {w w' : World} (h : Below w.heap.size w w') : Mv B M w w' := ⟨h.size, fun b _ hb _ => h.block b hb⟩
theorem Mv.on {B : Nat} {M : Nat → Prop} {w w1 w2 : World} (h : Mv B M w w1) (k : Mv B M w1 w2) : Mv B M w w2 :=
  ⟨Nat.le_trans h.1 k.1, fun b h0 h1 h2 => (k.2 b h0 (Nat.lt_of_lt_of_le h1 h.1) h2).trans (h.2 b h0 h1 h2)⟩
theorem Mv.less {B : Nat} {M M' : Nat → Prop} {w w' : World} (h : Mv B M w w') (hM : ∀ b, M b → M' b) : Mv B M' w w' := ⟨h.1, fun b h0 h1 h2 => h.2 b h0 h1 fun q => h2 (hM b q)⟩
theorem Mv.set {B : Nat} {M : Nat → Prop} {w w' : World} (h : Mv B M w w') {p : Addr} (hp : p.block < B ∨ M p.block ∨ w.heap.size ≤ p.block) (v : Value) : Mv B M w (w'.setCell p v) := by
  refine ⟨by have := h.1; simpa [World.setCell] using this, fun b h0 h1 h2 => ?_⟩
  rw [Below.heap_setCell w' p v b (by rintro rfl; rcases hp with hp | hp | hp; omega; exact h2 hp; omega)]
  exact h.2 b h0 h1 h2
theorem Has.mv {B : Nat} {M : Nat → Prop} {w w' : World} {g : Nat} {cs : Array Value} (h : Has w g cs) (k : Mv B M w w') (hg : B ≤ g) (hM : ¬ M g) : Has w' g cs := by
  have hl := h.size
  obtain ⟨t, h⟩ := h
  exact ⟨t, (k.2 g hg hl hM).trans h⟩
theorem kept_put {F : Nat → Prop} {a w : World} (h : Kept F a w) {p : Addr} (hp : ¬ F p.block) (v : Value) : Kept F a (w.setCell p v) := by
  refine ⟨h.os, h.tape, h.output, ?_, fun b hb => ?_⟩
  · have := Kept.size h
    simp [World.setCell]
    exact this
  · rw [Below.heap_setCell w p v b (by rintro rfl; exact hp hb)]
    exact h.block b hb
theorem TRow.far {e : TypeId} {k : Nat} {w : World} {base n c : Nat} {A : Option Addr} {rows : Rows2} (h : TRow e k w base A n c rows) {p : Addr} (hp : ∀ g, A = some g → g.block ≠ p.block) (u : Value) : TRow e k (w.setCell p u) base A n c rows :=
  h.keep fun g hg => Below.heap_setCell w p u _ (hp g hg)
theorem Moved.refl (w : World) (A : Option Addr) : Moved w A A := fun _ h => .inl h
theorem Offs.moved {A C A' : Option Addr} {w : World} (h : Offs A C) (hm : Moved w A A') (hC : ∀ y, C = some y → y.block < w.heap.size) : Offs A' C := by
  intro x y hx hy e
  rcases hm _ ⟨x, hx, rfl⟩ with ⟨a, ha, q⟩ | q
  · exact h a y ha hy (q.trans e)
  · have := hC y hy; omega
theorem Off.moved {A A' : Option Addr} {p : Nat} {w : World} (h : Off A p) (hm : Moved w A A') (hp : p < w.heap.size) : Off A' p := by
  intro x hx e
  rcases hm _ ⟨x, hx, rfl⟩ with ⟨a, ha, q⟩ | q
  · exact h a ha (q.trans e)
  · omega
theorem Offs.symm {A C : Option Addr} (h : Offs A C) : Offs C A := fun x y hx hy e => h y x hy hx e.symm

/-! ### The watch -/
structure Wat (w0 w : World) (g : Nat) (u cap : Int) (V : Value) (A : Option Addr) (n c : Nat) (S : List SegP) (C : Option Addr) (m d : Nat) (F : List FlagP) : Prop where
  gB : g < w0.heap.size
  h : Has w g #[.int .i64 u, .int .i64 cap, V, .slice A n c, .slice C m d]
  hn : S.length = n
  hm : F.length = m
  a : SRow w w0.heap.size A n c S
  b : FRow w w0.heap.size C m d F
  ne : Offs A C
  k : Kept (fun b => b < w0.heap.size ∧ b ≠ g) w0 w
section
variable {w0 w w' : World} {g : Nat} {u cap : Int} {V : Value} {A C : Option Addr} {n c m d : Nat} {S : List SegP} {F : List FlagP}
theorem Wat.start (hg : Has w0 g #[.int .i64 u, .int .i64 cap, V, .slice none 0 0, .slice none 0 0]) : Wat w0 w0 g u cap V none 0 0 [] none 0 0 [] :=
  ⟨hg.size, hg, rfl, rfl, TRow.nil _ _, TRow.nil _ _, fun x y h => (by cases h), Kept.refl _ _⟩
theorem Wat.size (h : Wat w0 w g u cap V A n c S C m d F) : w0.heap.size ≤ w.heap.size := h.k.size
theorem Wat.below (h : Wat w0 w g u cap V A n c S C m d F) (hb : Below w.heap.size w w') : Wat w0 w' g u cap V A n c S C m d F :=
  ⟨h.gB, h.h.below hb, h.hn, h.hm, h.a.below hb, h.b.below hb, h.ne, h.k.on (Kept.of_below hb fun i hi => by have := h.k.size; omega)⟩
theorem Wat.drew (h : Wat w0 w g u cap V A n c S C m d F) : Wat w0 w.drew g u cap V A n c S C m d F := h.below (below_drew (Below.refl _ _))
/-- The open session is another one. -/
theorem Wat.open (h : Wat w0 w g u cap V A n c S C m d F) (V' : Value) : Wat w0 (w.setCell ⟨g, 2, none⟩ V') g u cap V' A n c S C m d F :=
  ⟨h.gB, h.h.set 2 V', h.hn, h.hm, h.a.far (fun x hx => by have := (h.a.lt x hx).1; have := h.gB; show x.block ≠ g; omega) _, h.b.far (fun x hx => by have := (h.b.lt x hx).1; have := h.gB; show x.block ≠ g; omega) _, h.ne,
    kept_put h.k (p := ⟨g, 2, none⟩) (fun q => q.2 rfl) _⟩
theorem Wat.flag (h : Wat w0 w g u cap V A n c S C m d F) (x : FlagP) (hm : m ≤ 1000) {s : Nat} (hs : w.heap.size = s) :
    ∃ C' d' w', (Builtin.append_ #[48, 48] 48 #[.slice C m d, .slice (some ⟨s, 0, none⟩) 1 1]).run Tryz.prog (w.alloc (.cells #[.int .i64 x.id, .int .i64 x.kd] 145)) = .ok (.slice C' (m + 1) d') w' ∧
      Has w' g #[.int .i64 u, .int .i64 cap, V, .slice A n c, .slice C m d] ∧ Wat w0 (w'.setCell ⟨g, 4, none⟩ (.slice C' (m + 1) d')) g u cap V A n c S C' (m + 1) d' (F ++ [x]) ∧
      Mv w0.heap.size (OnB C) w (w'.setCell ⟨g, 4, none⟩ (.slice C' (m + 1) d')) ∧ Moved w C C' := by
  obtain ⟨C', d', w', h1, h2, h3, h4, h5⟩ := trow_one (t := 48) (e := 145) (k := 2) (by_ := 16) (z := .agg #[.int .i64 0, .int .i64 0]) Tryz.underlying48 flag_info rfl (by omega) (by omega) h.b (flagL x) rfl hm h.size hs
  have e0 : (ints .i64 (flagL x)).toArray = #[.int .i64 x.id, .int .i64 x.kd] := rfl
  rw [e0] at h1
  have hgl := h.h.size
  have hsz := h.size
  have hgB := h.gB
  have hbk : ∀ b, b < w.heap.size → Off C b → w'.heap[b]? = w.heap[b]? := h4
  have hg : Has w' g #[.int .i64 u, .int .i64 cap, V, .slice A n c, .slice C m d] := by
    obtain ⟨t, q⟩ := h.h
    exact ⟨t, (hbk g hgl fun a ha => by have := (h.b.lt a ha).1; omega).trans q⟩
  have hmv : Moved w C C' := by
    rintro b ⟨a, ha, rfl⟩
    rcases h5 a ha with ⟨e, q1, q2⟩ | q
    · exact .inl ⟨e, q1, q2.symm⟩
    · exact .inr q
  have ha' : SRow w' w0.heap.size A n c S := h.a.keep fun x hx => hbk x.block (h.a.lt x hx).2 fun y hy e => h.ne x y hx hy e.symm
  have hb' : FRow w' w0.heap.size C' (m + 1) d' (F ++ [x]) := by
    have e : (F ++ [x]).map flagL = F.map flagL ++ [flagL x] := by simp
    show TRow _ _ _ _ _ _ _ ((F ++ [x]).map flagL)
    rw [e]
    exact h2
  refine ⟨C', d', w', h1, hg, ⟨hgB, hg.set 4 _, h.hn, by simp [h.hm], ha'.far (fun x hx => by have := (h.a.lt x hx).1; show x.block ≠ g; omega) _, hb'.far (fun x hx => by have := (hb'.lt x hx).1; show x.block ≠ g; omega) _, ?_, ?_⟩, ?_, hmv⟩
  · exact (h.ne.symm.moved hmv fun y hy => (h.a.lt y hy).2).symm
  · exact kept_put (h.k.on (h3.less fun i hi => hi.1)) (p := ⟨g, 4, none⟩) (fun q => q.2 rfl) _
  · refine Mv.set ⟨h3.size, fun b hb0 hb1 hb2 => hbk b hb1 fun a ha e => hb2 ⟨a, ha, e⟩⟩ (.inl hgB) _
theorem Wat.seg (h : Wat w0 w g u cap V A n c S C m d F) (x : SegP) (hm : n ≤ 1000) {s : Nat} (hs : w.heap.size = s) :
    ∃ A' c' w', (Builtin.append_ #[47, 47] 47 #[.slice A n c, .slice (some ⟨s, 0, none⟩) 1 1]).run Tryz.prog (w.alloc (.cells #[.int .i64 x.fr, .int .i64 x.to, .int .i64 x.kd, .int .i64 x.id, .int .i64 x.cd] 54)) = .ok (.slice A' (n + 1) c') w' ∧
      Has w' g #[.int .i64 u, .int .i64 cap, V, .slice A n c, .slice C m d] ∧ Wat w0 (w'.setCell ⟨g, 3, none⟩ (.slice A' (n + 1) c')) g u cap V A' (n + 1) c' (S ++ [x]) C m d F ∧
      Mv w0.heap.size (OnB A) w w' ∧ Moved w A A' := by
  obtain ⟨A', c', w', h1, h2, h3, h4, h5⟩ := trow_one (t := 47) (e := 54) (k := 5) (by_ := 40) (z := .agg #[.int .i64 0, .int .i64 0, .int .i64 0, .int .i64 0, .int .i64 0]) Tryz.underlying47 seg_info rfl (by omega) (by omega) h.a (segL x) rfl hm h.size hs
  have e0 : (ints .i64 (segL x)).toArray = #[.int .i64 x.fr, .int .i64 x.to, .int .i64 x.kd, .int .i64 x.id, .int .i64 x.cd] := rfl
  rw [e0] at h1
  have hgl := h.h.size
  have hsz := h.size
  have hgB := h.gB
  have hbk : ∀ b, b < w.heap.size → Off A b → w'.heap[b]? = w.heap[b]? := h4
  have hg : Has w' g #[.int .i64 u, .int .i64 cap, V, .slice A n c, .slice C m d] := by
    obtain ⟨t, q⟩ := h.h
    exact ⟨t, (hbk g hgl fun a ha => by have := (h.a.lt a ha).1; omega).trans q⟩
  have hmv : Moved w A A' := by
    rintro b ⟨a, ha, rfl⟩
    rcases h5 a ha with ⟨e, q1, q2⟩ | q
    · exact .inl ⟨e, q1, q2.symm⟩
    · exact .inr q
  have hb' : FRow w' w0.heap.size C m d F := h.b.keep fun x hx => hbk x.block (h.b.lt x hx).2 fun y hy e => h.ne y x hy hx e
  have ha' : SRow w' w0.heap.size A' (n + 1) c' (S ++ [x]) := by
    have e : (S ++ [x]).map segL = S.map segL ++ [segL x] := by simp
    show TRow _ _ _ _ _ _ _ ((S ++ [x]).map segL)
    rw [e]
    exact h2
  refine ⟨A', c', w', h1, hg, ⟨hgB, hg.set 3 _, by simp [h.hn], h.hm, ha'.far (fun x hx => by have := (ha'.lt x hx).1; show x.block ≠ g; omega) _, hb'.far (fun x hx => by have := (hb'.lt x hx).1; show x.block ≠ g; omega) _, ?_, ?_⟩, ?_, hmv⟩
  · exact h.ne.moved hmv fun y hy => (h.b.lt y hy).2
  · exact kept_put (h.k.on (h3.less fun i hi => hi.1)) (p := ⟨g, 3, none⟩) (fun q => q.2 rfl) _
  · exact ⟨h3.size, fun b hb0 hb1 hb2 => hbk b hb1 fun a ha e => hb2 ⟨a, ha, e⟩⟩
/-- What a step that moves blocks of its own leaves. -/
theorem Wat.mv {M : Nat → Prop} (h : Wat w0 w g u cap V A n c S C m d F) (k : Mv w0.heap.size M w w') (hg : w'.heap[g]? = w.heap[g]?) (hA : ∀ x, A = some x → ¬ M x.block) (hC : ∀ x, C = some x → ¬ M x.block) (hk : Kept (fun b => b < w0.heap.size ∧ b ≠ g) w w') :
    Wat w0 w' g u cap V A n c S C m d F := by
  refine ⟨h.gB, ?_, h.hn, h.hm, h.a.keep fun x hx => k.2 _ (h.a.lt x hx).1 (h.a.lt x hx).2 (hA x hx), h.b.keep fun x hx => k.2 _ (h.b.lt x hx).1 (h.b.lt x hx).2 (hC x hx), h.ne, h.k.on hk⟩
  obtain ⟨t, q⟩ := h.h
  exact ⟨t, hg.trans q⟩
end

/-! ### The open session -/
def sesC (e : EvP) (V : Value) : Array Value := #[.int .i64 e.id, .int .i64 e.wk, .int .i64 e.tm, .int .i64 e.kd, .int .i64 e.fr, .int .i64 e.to, .int .i64 e.el, .int .i64 e.un, .int .i64 e.cl, .int .i64 e.ge, .int .i64 e.cd, V]
structure Ses (w0 w : World) (p : Nat) (e : EvP) (D : Option Addr) (q r : Nat) (ins : List EvP) : Prop where
  pB : w0.heap.size ≤ p
  h : Has w p (sesC e (.slice D q r))
  hq : ins.length = q
  r : ERow w w0.heap.size D q r ins
  ne : Off D p
structure Apt (p : Nat) (A C D : Option Addr) : Prop where
  ap : Off A p
  cp : Off C p
  da : Offs D A
  dc : Offs D C
section
variable {w0 w w' : World} {p : Nat} {e : EvP} {D : Option Addr} {q r : Nat} {ins : List EvP}
theorem Ses.below (h : Ses w0 w p e D q r ins) (hb : Below w.heap.size w w') : Ses w0 w' p e D q r ins := ⟨h.pB, h.h.below hb, h.hq, h.r.below hb, h.ne⟩
theorem Ses.drew (h : Ses w0 w p e D q r ins) : Ses w0 w.drew p e D q r ins := h.below (below_drew (Below.refl _ _))
theorem Ses.mv {M : Nat → Prop} (h : Ses w0 w p e D q r ins) (k : Mv w0.heap.size M w w') (hp : ¬ M p) (hD : ∀ x, D = some x → ¬ M x.block) : Ses w0 w' p e D q r ins :=
  ⟨h.pB, h.h.mv k h.pB hp, h.hq, h.r.keep fun x hx => k.2 _ (h.r.lt x hx).1 (h.r.lt x hx).2 (hD x hx), h.ne⟩
/-- One event more in it. -/
theorem Ses.push (h : Ses w0 w p e D q r ins) (x : EvP) (hm : q ≤ 1000) (hB : w0.heap.size ≤ w.heap.size) {s : Nat} (hs : w.heap.size = s) :
    ∃ D' r' w', (Builtin.append_ #[31, 31] 31 #[.slice D q r, .slice (some ⟨s, 0, none⟩) 1 1]).run Tryz.prog (w.alloc (.cells (evC x) 43)) = .ok (.slice D' (q + 1) r') w' ∧
      Has w' p (sesC e (.slice D q r)) ∧ Ses w0 (w'.setCell ⟨p, 11, none⟩ (.slice D' (q + 1) r')) p e D' (q + 1) r' (ins ++ [x]) ∧
      Mv w0.heap.size (OnB D) w w' ∧ Moved w D D' ∧ Kept (fun b => b < w0.heap.size) w w' := by
  obtain ⟨D', r', w', h1, h2, h3, h4, h5⟩ := trow_one (t := 31) (e := 43) (k := 11) (by_ := 88) (z := .agg (evC EvP.none)) Tryz.underlying31 ev_info rfl (by omega) (by omega) h.r (evLs x) rfl hm hB hs
  have e0 : (ints .i64 (evLs x)).toArray = evC x := rfl
  rw [e0] at h1
  have hbk : ∀ b, b < w.heap.size → Off D b → w'.heap[b]? = w.heap[b]? := h4
  have hmv : Moved w D D' := by
    rintro b ⟨a, ha, rfl⟩
    rcases h5 a ha with ⟨e, q1, q2⟩ | q
    · exact .inl ⟨e, q1, q2.symm⟩
    · exact .inr q
  have hg : Has w' p (sesC e (.slice D q r)) := by
    have hl := h.h.size
    obtain ⟨t, q⟩ := h.h
    exact ⟨t, (hbk p hl h.ne).trans q⟩
  have hne : Off D' p := h.ne.moved hmv h.h.size
  have hr' : ERow w' w0.heap.size D' (q + 1) r' (ins ++ [x]) := by
    have e : (ins ++ [x]).map evLs = ins.map evLs ++ [evLs x] := by simp
    show TRow _ _ _ _ _ _ _ ((ins ++ [x]).map evLs)
    rw [e]
    exact h2
  exact ⟨D', r', w', h1, hg, ⟨h.pB, hg.set 11 _, by simp [h.hq], hr'.far (fun x hx => hne x hx) _, hne⟩, ⟨h3.size, fun b hb0 hb1 hb2 => hbk b hb1 fun a ha e => hb2 ⟨a, ha, e⟩⟩, hmv, h3⟩
end
end Go.Proofs.YtpgncbhahocmbaaGreat

namespace Go.Proofs.YtpgncbhahocmbaaGreat
open Go.RowKit
set_option linter.unusedVariables false
set_option linter.unusedSimpArgs false
set_option maxRecDepth 20000

theorem wpList_min2s {P : Program} {ops : Array Oper} {rest : List Oper} {o : Oper} {a : Act} {w : World} {Q : Exit → Act → World → Prop} {x y : Operand} {ts : Array TypeId} (p q n : Int) (hn : min p q = n) (hgd : o.guard = none)
    (ho : o.op = .call { callee := .builtin .min, args := #[x, y], argTypes := ts }) (h1 : a.eval x = .int .i64 p) (h2 : a.eval y = .int .i64 q)
    (h : wpList P ops Q rest (a.put o.dst (.int .i64 n)) w) : wpList P ops Q (o :: rest) a w := by
  refine wpList_plain hgd fun K hK => ?_
  have e : (if q < p then q else p) = n := by
    subst hn
    split <;> omega
  unfold Oper.wp execOp
  simp only [ho, resolve, invoke, builtin, Sem.run_bind, Sem.run_pure, Result.andThen_ok, List.map_toArray, List.map_cons, List.map_nil, h1, h2, run_min_int2, e]
  exact hK _ _ h
theorem has_load_e {w : World} {b : Nat} {e : EvP} (h : Has w b (evC e)) : (loadVar 43 ⟨b, 0, none⟩).run Tryz.prog w = .ok (.agg (evC e)) w :=
  run_loadVar_at fun j hj => by
    obtain ⟨t, h⟩ := h
    rw [Nat.zero_add]
    exact cell_of_row w b j (evC e) t (0, 0) h
theorem kindBy_any (e : EvP) (w : World) : Calls Tryz.prog 131 #[.agg (evC e)] w fun r w' => r = .returned (.int .i64 (kindP e.kd)) ∧ Below w.heap.size w w' := by
  have q3 := (Has.new w 43 (evC e) rfl).cell 3 (show (evC e)[3]? = some (.int .i64 e.kd) from rfl)
  have hb0 := bel_alloc (Below.refl w.heap.size w) (.cells (evC e) 43)
  have HZ := Lib.hid (evC_size e)
  obtain ⟨k, hk⟩ : ∃ k, e.kd = k := ⟨_, rfl⟩
  rw [hk] at q3 ⊢
  clear hk
  generalize evC e = ce at *
  unfold kindP
  by_cases k3 : k = 3
  · subst k3
    go_enter Tryz.func131, Tryz.ntmps131
    go_wp2
    go_ret
    exact ⟨rfl, hb0⟩
  · have k3' : (k == 3) = false := beq_eq_false_iff_ne.2 k3
    rw [if_neg k3]
    by_cases k4 : k = 4
    · subst k4
      go_enter Tryz.func131, Tryz.ntmps131
      go_wp2
      go_ret
      exact ⟨rfl, hb0⟩
    · have k4' : (k == 4) = false := beq_eq_false_iff_ne.2 k4
      rw [if_neg k4]
      by_cases k5 : k = 5
      · subst k5
        go_enter Tryz.func131, Tryz.ntmps131
        go_wp2
        go_ret
        exact ⟨rfl, hb0⟩
      · have k5' : (k == 5) = false := beq_eq_false_iff_ne.2 k5
        rw [if_neg k5]
        go_enter Tryz.func131, Tryz.ntmps131
        go_wp2
        go_ret
        exact ⟨rfl, hb0⟩
section
variable {w0 w : World} {g : Nat} {u cap : Int} {V : Value} {A C : Option Addr} {n c m d : Nat} {S : List SegP} {F : List FlagP}
/-- What a flag more leaves. -/
def GotFlag (w0 w w' : World) (g : Nat) (u cap : Int) (V : Value) (A : Option Addr) (n c : Nat) (S : List SegP) (C : Option Addr) (m : Nat) (F' : List FlagP) : Prop :=
  ∃ C' d', Wat w0 w' g u cap V A n c S C' (m + 1) d' F' ∧ Mv w0.heap.size (OnB C) w w' ∧ Moved w C C'
/-- What a part more leaves. -/
def GotSeg (w0 w w' : World) (g : Nat) (u cap : Int) (V : Value) (A : Option Addr) (S' : List SegP) (C : Option Addr) (m d : Nat) (F : List FlagP) (bf : Nat) (z : Int) : Prop :=
  ∃ A' n' c', Wat w0 w' g u cap V A' n' c' S' C m d F ∧ Has w' bf #[.int .i64 z] ∧ Mv w0.heap.size (fun b => b = bf ∨ OnB A b) w w' ∧ Moved w A A'
theorem wflag_any (h : Wat w0 w g u cap V A n c S C m d F) (id kd : Int) (hm : m ≤ 1000) :
    Calls Tryz.prog 100 #[.pointer (some ⟨g, 0, none⟩), .int .i64 id, .int .i64 kd] w fun e w' => e = .returned (.tuple #[]) ∧ GotFlag w0 w w' g u cap V A n c S C m (F ++ [⟨id, kd⟩]) := by
  obtain ⟨C', d', w5, hr5, hh5, hw5, hm5, hv5⟩ := h.flag ⟨id, kd⟩ hm rfl
  have HR5 := Lib.hid hr5
  have HEND := Lib.hid (And.intro hw5 (And.intro hm5 hv5))
  have q4 := h.h.cell 4 rfl
  have z4 := cell_lt q4
  have p4 := hh5.cell 4 rfl
  have f4 := hh5.frozen 4
  have y4 := cell_lt p4
  clear h hr5 hh5 hw5 hm5 hv5
  go_enter Tryz.func100, Tryz.ntmps100
  go_wp2_with (at_builtin; refine wpList_append_run (o := ⟨some 15, _, _, _, _, _⟩) HR5.out rfl rfl rfl rfl ?_)
  go_end0
  exact ⟨rfl, C', d', HEND.out⟩
/-- A block of the call's own, that none of the rows lies in. -/
def Lc (w0 : World) (A : Option Addr) (p : Nat) : Prop := w0.heap.size ≤ p ∧ Off A p
theorem Wat.other (h : Wat w0 w g u cap V A n c S C m d F) {p : Nat} (hp : Lc w0 A p) (hc : Off C p) (i : Nat) (v : Value) : Wat w0 (w.setCell ⟨p, i, none⟩ v) g u cap V A n c S C m d F := by
  have hgB := h.gB
  have hp1 := hp.1
  exact ⟨hgB, h.h.far (show g ≠ p by omega) v, h.hn, h.hm, h.a.far (fun x hx => hp.2 x hx) v, h.b.far (fun x hx => hc x hx) v, h.ne, kept_put h.k (p := ⟨p, i, none⟩) (fun q => by have := q.1; simp only at this; omega) v⟩
set_option maxHeartbeats 4000000 in
theorem upto_yes (h : Wat w0 w g u cap V A n c S C m d F) (bt bf bw be : Nat) (tz fr nx y : Int) (e : EvP) (h1 : Has w bt #[.int .i64 tz]) (h2 : Has w bf #[.int .i64 fr]) (h3 : Has w bw #[.pointer (some ⟨g, 0, none⟩)]) (h4 : Has w be (evC e))
    (l2 : Lc w0 A bf) (l3 : Lc w0 A bw) (l4 : Lc w0 A be) (lc : Off C bf) (hn : n ≤ 1000) (hy : min nx tz = y) (hlt : fr < y) :
    Calls Tryz.prog 130 #[.int .i64 nx, .pointer (some ⟨bt, 0, none⟩), .pointer (some ⟨bf, 0, none⟩), .pointer (some ⟨bw, 0, none⟩), .pointer (some ⟨be, 0, none⟩)] w fun r w' => r = .returned (.tuple #[]) ∧
      GotSeg w0 w w' g u cap V A (S ++ [⟨fr, y, kindP e.kd, e.id, e.cd⟩]) C m d F bf y := by
  have HW := Lib.hid h
  have H2 := Lib.hid h2
  have H3 := Lib.hid h3
  have H4 := Lib.hid h4
  have L2 := Lib.hid l2
  have L3 := Lib.hid l3
  have L4 := Lib.hid l4
  have LC := Lib.hid lc
  have HY := Lib.hid hy
  have HK := Lib.hid (fun W => kindBy_any e W)
  have q1 := h1.cell 0 rfl
  have q1z := cell_lt q1
  have q2 := h2.cell 0 rfl
  have q2z := cell_lt q2
  have mixed : Tryz.prog.follows Departure.mixedOrders = true := by kernel_rfl
  clear h h1 h2 h3 h4 l2 l3 l4 lc hy
  go_enter Tryz.func130, Tryz.ntmps130
  go_wp2_with (refine wpList_min2s _ _ y HY.out rfl rfl rfl rfl ?_)
  refine wp_region_noPanic ?_
  refine wp_region_last (S := fun w' => Has w' bf #[.int .i64 fr] ∧ Has w' bw #[.pointer (some ⟨g, 0, none⟩)] ∧ Has w' be (evC e) ∧ Has w' g #[.int .i64 u, .int .i64 cap, V, .slice A n c, .slice C m d]) 18 (by kernel_rfl) (⟨H2.out.drew, H3.out.drew, H4.out.drew, HW.out.drew.h⟩) (fun hHeld => ?_)
  refine wpAnyK_take (i := 0) (oi := ⟨some 12, _, _, _, _, _⟩) (v := .pointer (some ⟨g, 0, none⟩)) rfl (by kernel_rfl) (by kernel_rfl) (by kernel_rfl) (by kernel_rfl) (fun _ _ _ h => h) (Or.inl ⟨by rfl, ?_⟩) hHeld ?_
  · intro ww hSw
    have q := hSw.2.1.cell 0 rfl
    have qz := cell_lt q
    go_simp
  simp only [Act.put, List.setIfInBounds_toArray, List.set_cons_zero, List.set_cons_succ]
  refine wpAnyK_take (i := 1) (oi := ⟨some 13, _, _, _, _, _⟩) (v := .pointer (some ⟨g, 0, none⟩)) rfl (by kernel_rfl) (by kernel_rfl) (by kernel_rfl) (by kernel_rfl) (fun _ _ _ h => h) (Or.inl ⟨by rfl, ?_⟩) hHeld ?_
  · intro ww hSw
    have q := hSw.2.1.cell 0 rfl
    have qz := cell_lt q
    go_simp
  simp only [Act.put, List.setIfInBounds_toArray, List.set_cons_zero, List.set_cons_succ]
  refine wpAnyK_take (i := 2) (oi := ⟨some 14, _, _, _, _, _⟩) (v := ?_) rfl (by kernel_rfl) (by kernel_rfl) (by kernel_rfl) (by kernel_rfl) (fun _ _ _ h => h) (Or.inl ⟨by rfl, ?_⟩) hHeld ?_
  rotate_left
  · intro ww hSw
    (try dsimp only at hSw)
    go_simp
    (try with_reducible rfl)
  simp only [Act.put, List.setIfInBounds_toArray, List.set_cons_zero, List.set_cons_succ]
  refine wpAnyK_take (i := 3) (oi := ⟨some 15, _, _, _, _, _⟩) (v := ?_) rfl (by kernel_rfl) (by kernel_rfl) (by kernel_rfl) (by kernel_rfl) (fun _ _ _ h => h) (Or.inl ⟨by rfl, ?_⟩) hHeld ?_
  rotate_left
  · intro ww hSw
    (try dsimp only at hSw)
    go_simp
    (try with_reducible rfl)
  simp only [Act.put, List.setIfInBounds_toArray, List.set_cons_zero, List.set_cons_succ]
  refine wpAnyK_take (i := 4) (oi := ⟨some 16, _, _, _, _, _⟩) (v := .slice A n c) rfl (by kernel_rfl) (by kernel_rfl) (by kernel_rfl) (by kernel_rfl) (fun _ _ _ h => h) (Or.inl ⟨by rfl, ?_⟩) hHeld ?_
  · intro ww hSw
    have q := hSw.2.2.2.cell 3 rfl
    have qz := cell_lt q
    go_simp
  simp only [Act.put, List.setIfInBounds_toArray, List.set_cons_zero, List.set_cons_succ]
  refine wpAnyK_take (i := 5) (oi := ⟨some 17, _, _, _, _, _⟩) (v := .int .i64 fr) rfl (by kernel_rfl) (by kernel_rfl) (by kernel_rfl) (by kernel_rfl) (fun _ _ _ h => h) (Or.inl ⟨by rfl, ?_⟩) hHeld ?_
  · intro ww hSw
    have q := hSw.1.cell 0 rfl
    have qz := cell_lt q
    go_simp
  simp only [Act.put, List.setIfInBounds_toArray, List.set_cons_zero, List.set_cons_succ]
  refine wpAnyK_take (i := 6) (oi := ⟨some 18, _, _, _, _, _⟩) (v := ?_) rfl (by kernel_rfl) (by kernel_rfl) (by kernel_rfl) (by kernel_rfl) (fun _ _ _ h => h) (Or.inl ⟨by rfl, ?_⟩) hHeld ?_
  rotate_left
  · intro ww hSw
    (try dsimp only at hSw)
    go_simp
    (try with_reducible rfl)
  simp only [Act.put, List.setIfInBounds_toArray, List.set_cons_zero, List.set_cons_succ]
  refine wpAnyK_take (i := 7) (oi := ⟨some 19, _, _, _, _, _⟩) (v := .agg (evC e)) rfl (by kernel_rfl) (by kernel_rfl) (by kernel_rfl) (by kernel_rfl) (fun _ _ _ h => h) (Or.inl ⟨by rfl, ?_⟩) hHeld ?_
  · intro ww hSw
    exact exec_load_at _ rfl rfl (has_load_e hSw.2.2.1)
  simp only [Act.put, List.setIfInBounds_toArray, List.set_cons_zero, List.set_cons_succ]
  refine wpAnyK_take (i := 9) (oi := ⟨some 21, _, _, _, _, _⟩) (v := ?_) rfl (by kernel_rfl) (by kernel_rfl) (by kernel_rfl) (by kernel_rfl) (fun _ _ _ h => h) (Or.inl ⟨by rfl, ?_⟩) hHeld ?_
  rotate_left
  · intro ww hSw
    (try dsimp only at hSw)
    go_simp
    (try with_reducible rfl)
  simp only [Act.put, List.setIfInBounds_toArray, List.set_cons_zero, List.set_cons_succ]
  refine wpAnyK_take (i := 10) (oi := ⟨some 22, _, _, _, _, _⟩) (v := .int .i64 e.id) rfl (by kernel_rfl) (by kernel_rfl) (by kernel_rfl) (by kernel_rfl) (fun _ _ _ h => h) (Or.inl ⟨by rfl, ?_⟩) hHeld ?_
  · intro ww hSw
    have q := hSw.2.2.1.cell 0 (show (evC e)[0]? = some (.int .i64 e.id) from rfl)
    have qz := cell_lt q
    go_simp
  simp only [Act.put, List.setIfInBounds_toArray, List.set_cons_zero, List.set_cons_succ]
  refine wpAnyK_take (i := 11) (oi := ⟨some 23, _, _, _, _, _⟩) (v := ?_) rfl (by kernel_rfl) (by kernel_rfl) (by kernel_rfl) (by kernel_rfl) (fun _ _ _ h => h) (Or.inl ⟨by rfl, ?_⟩) hHeld ?_
  rotate_left
  · intro ww hSw
    (try dsimp only at hSw)
    go_simp
    (try with_reducible rfl)
  simp only [Act.put, List.setIfInBounds_toArray, List.set_cons_zero, List.set_cons_succ]
  refine wpAnyK_take (i := 12) (oi := ⟨some 24, _, _, _, _, _⟩) (v := .int .i64 e.cd) rfl (by kernel_rfl) (by kernel_rfl) (by kernel_rfl) (by kernel_rfl) (fun _ _ _ h => h) (Or.inl ⟨by rfl, ?_⟩) hHeld ?_
  · intro ww hSw
    have q := hSw.2.2.1.cell 10 (show (evC e)[10]? = some (.int .i64 e.cd) from rfl)
    have qz := cell_lt q
    go_simp
  simp only [Act.put, List.setIfInBounds_toArray, List.set_cons_zero, List.set_cons_succ]
  refine wpAnyK_up (i := 8) (o := ⟨some 20, _, _, _, _, _⟩) (by kernel_rfl) rfl (fun K hK => ?_)
  go_simp
  go_at_call 131
  refine (HK.out _).mono ?_
  rintro e_r w5 ⟨rfl, hb5⟩
  have HW5 := Lib.hid (HW.out.drew.below hb5)
  have HB5 := Lib.hid hb5
  clear hb5
  go_wp2_with fail
  refine hK.out _ _ (fun _ => ?_) (fun hHeld => ?_)
  · exact ⟨hHeld.1.below HB5.out, hHeld.2.1.below HB5.out, hHeld.2.2.1.below HB5.out, HW5.out.h⟩
  replace hHeld := hHeld (by decide)
  clear hK K
  (try simp only [Act.put, List.setIfInBounds_toArray, List.set_cons_zero, List.set_cons_succ])
  refine wpAnyK_take (i := 13) (oi := ⟨some 25, _, _, _, _, _⟩) (v := ?_) rfl (by kernel_rfl) (by kernel_rfl) (by kernel_rfl) (by kernel_rfl) (fun _ _ _ h => h) (Or.inl ⟨by rfl, ?_⟩) hHeld ?_
  rotate_left
  · intro ww hSw
    (try dsimp only at hSw)
    go_simp
    (try with_reducible rfl)
  simp only [Act.put, List.setIfInBounds_toArray, List.set_cons_zero, List.set_cons_succ]
  obtain ⟨A9, c9, w9, hr9, hh9, hw9, hm9, hv9⟩ := HW5.out.seg ⟨fr, y, kindP e.kd, e.id, e.cd⟩ hn rfl
  have HR9 := Lib.hid hr9
  have HH9 := Lib.hid hh9
  have HW9 := Lib.hid hw9
  have HM9 := Lib.hid hm9
  have HV9 := Lib.hid hv9
  clear hr9 hh9 hw9 hm9 hv9
  refine wpAnyK_up (i := 14) (o := ⟨some 26, _, _, _, _, _⟩) (by kernel_rfl) rfl (fun K hK => ?_)
  go_simp
  refine hK.out _ _ (fun _ => ?_) (fun hHeld => ?_)
  · exact ⟨hHeld.1.alloc _, hHeld.2.1.alloc _, hHeld.2.2.1.alloc _, HW5.out.h.alloc _⟩
  replace hHeld := hHeld (by decide)
  clear hK K
  (try simp only [Act.put, List.setIfInBounds_toArray, List.set_cons_zero, List.set_cons_succ])
  refine wpAnyK_up (i := 15) (o := ⟨some 27, _, _, _, _, _⟩) (by kernel_rfl) rfl (fun K hK => ?_)
  show if Region.wanted _ _ = true then _ else _
  rw [if_pos (by rfl)]
  refine wp_append_run8 (K := K) HR9.out rfl rfl rfl ?_
  refine hK.out _ _ (fun _ => ?_) (fun hHeld => ?_)
  · exact ⟨H2.out.drew.below HB5.out |>.mv HM9.out L2.out.1 (fun ⟨a, ha, q⟩ => L2.out.2 a ha q), H3.out.drew.below HB5.out |>.mv HM9.out L3.out.1 (fun ⟨a, ha, q⟩ => L3.out.2 a ha q), H4.out.drew.below HB5.out |>.mv HM9.out L4.out.1 (fun ⟨a, ha, q⟩ => L4.out.2 a ha q), HH9.out⟩
  replace hHeld := hHeld (by decide)
  clear hK K
  (try simp only [Act.put, List.setIfInBounds_toArray, List.set_cons_zero, List.set_cons_succ])
  refine wpAnyK_up (i := 16) (o := ⟨some 28, _, _, _, _, _⟩) (by kernel_rfl) rfl (fun K hK => ?_)
  go_simp
  refine hK.out _ _ (fun _ => ?_) (fun hHeld => ?_)
  · exact hHeld
  replace hHeld := hHeld (by decide)
  clear hK K
  (try simp only [Act.put, List.setIfInBounds_toArray, List.set_cons_zero, List.set_cons_succ])
  refine wpAnyK_take (i := 17) (oi := ⟨some 29, _, _, _, _, _⟩) (v := ?_) rfl (by kernel_rfl) (by kernel_rfl) (by kernel_rfl) (by kernel_rfl) (fun _ _ _ h => h) (Or.inl ⟨by rfl, ?_⟩) hHeld ?_
  rotate_left
  · intro ww hSw
    (try dsimp only at hSw)
    go_simp
    (try with_reducible rfl)
  simp only [Act.put, List.setIfInBounds_toArray, List.set_cons_zero, List.set_cons_succ]
  refine wpAnyK_up (i := 18) (o := ⟨none, _, _, _, _, _⟩) (by kernel_rfl) rfl (fun K hK => ?_)
  have qs := HH9.out.cell 3 rfl
  have qf := HH9.out.frozen 3
  have qz := cell_lt qs
  go_simp
  refine hK.out _ _ (fun h => absurd rfl h) (fun _ => ?_)
  clear hK K
  (try simp only [Act.put, List.setIfInBounds_toArray, List.set_cons_zero, List.set_cons_succ])
  refine wpAnyK_done (by kernel_rfl) ?_ _
  refine NoPanic.normal ?_
  have hq2 := HH9.out
  obtain ⟨A', rfl⟩ : ∃ A', A9 = A' := ⟨_, rfl⟩
  have hF : Has w9 bf #[.int .i64 fr] := H2.out.drew.below HB5.out |>.mv HM9.out L2.out.1 (fun ⟨a, ha, q⟩ => L2.out.2 a ha q)
  have hgb : g < w0.heap.size := HW.out.gB
  have hF9 : Has (w9.setCell ⟨g, 3, none⟩ (.slice A9 (n + 1) c9)) bf #[.int .i64 fr] := hF.far (show bf ≠ g by have := L2.out.1; omega) _
  have qq := hF9.cell 0 rfl
  have qg := hF9.frozen 0
  have qz := cell_lt qq
  have hO : Off A9 bf := L2.out.2.moved HV9.out (H2.out.drew.below HB5.out).size
  have HEND : Hid (Wat w0 ((w9.setCell ⟨g, 3, none⟩ (.slice A9 (n + 1) c9)).setCell ⟨bf, 0, none⟩ (.int .i64 y)) g u cap V A9 (n + 1) c9 (S ++ [⟨fr, y, kindP e.kd, e.id, e.cd⟩]) C m d F ∧ Has ((w9.setCell ⟨g, 3, none⟩ (.slice A9 (n + 1) c9)).setCell ⟨bf, 0, none⟩ (.int .i64 y)) bf #[.int .i64 y] ∧
      Mv w0.heap.size (fun b => b = bf ∨ OnB A b) w ((w9.setCell ⟨g, 3, none⟩ (.slice A9 (n + 1) c9)).setCell ⟨bf, 0, none⟩ (.int .i64 y)) ∧ Moved w A A9) := by
    refine ⟨HW9.out.other ⟨L2.out.1, hO⟩ LC.out 0 _, hF9.set 0 _, ?_, ?_⟩
    · have k1 : Mv w0.heap.size (fun b => b = bf ∨ OnB A b) w w5 := Mv.of_below (bel_on (below_drew (Below.refl _ _)) HB5.out)
      exact ((k1.on (HM9.out.less fun b q => .inr q)).set (.inl hgb) _).set (.inr (.inl (.inl rfl))) _
    · intro b hb
      rcases HV9.out b hb with q | q
      · exact .inl q
      · refine .inr (Nat.le_trans ?_ q)
        exact (bel_on (below_drew (Below.refl w.heap.size w)) HB5.out).size
  clear hq2 hF hF9 hO
  go_wp2
  go_end0
  exact ⟨rfl, _, _, _, HEND.out⟩
theorem upto_no (h : Wat w0 w g u cap V A n c S C m d F) (bt bf bw be : Nat) (tz fr nx y : Int) (e : EvP) (h1 : Has w bt #[.int .i64 tz]) (h2 : Has w bf #[.int .i64 fr]) (hy : min nx tz = y) (hlt : ¬ fr < y) :
    Calls Tryz.prog 130 #[.int .i64 nx, .pointer (some ⟨bt, 0, none⟩), .pointer (some ⟨bf, 0, none⟩), .pointer (some ⟨bw, 0, none⟩), .pointer (some ⟨be, 0, none⟩)] w fun r w' => r = .returned (.tuple #[]) ∧ w = w' := by
  have q1 := h1.cell 0 rfl
  have q1z := cell_lt q1
  have q2 := h2.cell 0 rfl
  have q2z := cell_lt q2
  have HY := Lib.hid hy
  clear h h1 h2 hy
  go_enter Tryz.func130, Tryz.ntmps130
  go_wp2_with (refine wpList_min2s _ _ y HY.out rfl rfl rfl rfl ?_)
  go_end0
  exact ⟨rfl, rfl⟩
/-- The closure: a part up to a place, if it has seconds. -/
theorem upto_any (h : Wat w0 w g u cap V A n c S C m d F) (bt bf bw be : Nat) (tz fr nx y : Int) (e : EvP) (h1 : Has w bt #[.int .i64 tz]) (h2 : Has w bf #[.int .i64 fr]) (h3 : Has w bw #[.pointer (some ⟨g, 0, none⟩)]) (h4 : Has w be (evC e))
    (l2 : Lc w0 A bf) (l3 : Lc w0 A bw) (l4 : Lc w0 A be) (lc : Off C bf) (hn : n ≤ 1000) (hy : min nx tz = y) (z : Int) (hz : max fr y = z) :
    Calls Tryz.prog 130 #[.int .i64 nx, .pointer (some ⟨bt, 0, none⟩), .pointer (some ⟨bf, 0, none⟩), .pointer (some ⟨bw, 0, none⟩), .pointer (some ⟨be, 0, none⟩)] w fun r w' => r = .returned (.tuple #[]) ∧
      GotSeg w0 w w' g u cap V A (S ++ segI fr y e) C m d F bf z := by
  by_cases hlt : fr < y
  · obtain rfl : y = z := by omega
    refine (upto_yes h bt bf bw be tz fr nx y e h1 h2 h3 h4 l2 l3 l4 lc hn hy hlt).mono ?_
    rintro r w' ⟨rfl, A', n', c', q1, q2, q3, q4⟩
    exact ⟨rfl, A', n', c', by unfold segI; rw [if_pos hlt]; exact q1, q2, q3, q4⟩
  · obtain rfl : fr = z := by omega
    refine (upto_no h bt bf bw be tz fr nx y e h1 h2 hy hlt).mono ?_
    rintro r w' ⟨rfl, rfl⟩
    exact ⟨rfl, A, n, c, by unfold segI; rw [if_neg hlt, List.append_nil]; exact h, h2, Mv.refl _ _ _, Moved.refl _ _⟩
end
end Go.Proofs.YtpgncbhahocmbaaGreat

namespace Go.Proofs.YtpgncbhahocmbaaGreat
set_option linter.unusedVariables false
set_option linter.unusedSimpArgs false

def allI (P : EvP → Prop) : ItemP → Prop
  | .out e => P e
  | .sess e ins _ _ => P e ∧ ∀ x ∈ ins, P x
def allT (P : EvP → Prop) : StP → Prop
  | none => True
  | some (e, ins) => P e ∧ ∀ x ∈ ins, P x
theorem step_all {P : EvP → Prop} {cap : Int} (st : StP) (b : EvP) (h : allT P st) (hb : P b) : (∀ y ∈ (stepS cap st b).1, allI P y) ∧ allT P (stepS cap st b).2 := by
  match st, h with
  | none, _ =>
    by_cases k : b.kd = 1
    · simp only [stepS, if_pos k]; exact ⟨by simp, hb, by simp⟩
    · simp only [stepS, if_neg k]; exact ⟨by simpa [allI] using hb, trivial⟩
  | some (e, ins), ⟨h1, h2⟩ =>
    have hs : ∀ tz fl, allI P (.sess e ins tz fl) := fun tz fl => ⟨h1, h2⟩
    by_cases q : e.tm + cap < b.tm
    · by_cases k : b.kd = 1
      · simp only [stepS, if_pos q, if_pos k]; exact ⟨by simpa using hs _ _, hb, by simp⟩
      · simp only [stepS, if_pos q, if_neg k]
        refine ⟨fun y hy => ?_, trivial⟩
        rcases List.mem_cons.1 hy with rfl | hy
        · exact hs _ _
        · rw [List.mem_singleton.1 hy]; exact hb
    · by_cases k : b.kd = 1
      · simp only [stepS, if_neg q, if_pos k]; exact ⟨by simpa using hs _ _, hb, by simp⟩
      · by_cases k2 : b.kd = 2
        · simp only [stepS, if_neg q, if_neg k, if_pos k2]; exact ⟨by simpa using hs _ _, trivial⟩
        · simp only [stepS, if_neg q, if_neg k, if_neg k2]
          refine ⟨by simp, h1, fun x hx => ?_⟩
          rcases List.mem_append.1 hx with hx | hx
          · exact h2 x hx
          · rw [List.mem_singleton.1 hx]; exact hb
theorem items_all {P : EvP → Prop} {cap : Int} : ∀ (L : List EvP) (st : StP), allT P st → (∀ b ∈ L, P b) → ∀ y ∈ itemsS cap st L, allI P y
  | [], none, _, _, y, hy => by cases hy
  | [], some (e, ins), h, _, y, hy => by
    have hy' : y ∈ [ItemP.sess e ins (e.tm + cap) 1] := hy
    rw [List.mem_singleton.1 hy']
    exact h
  | b :: L, st, h, hL, y, hy => by
    obtain ⟨h1, h2⟩ := step_all (cap := cap) st b h (hL b (by simp))
    have hy' : y ∈ (stepS cap st b).1 ++ itemsS cap (stepS cap st b).2 L := hy
    rcases List.mem_append.1 hy' with q | q
    · exact h1 y q
    · exact items_all L _ h2 (fun c hc => hL c (by simp [hc])) y q
theorem items_kinds {cap : Int} : ∀ (L : List ItemP) (lo : Int), ItemsUp cap lo L → ∀ y ∈ L, ∀ e ins tz fl, y = .sess e ins tz fl → e.kd = 1 ∧ ∀ x ∈ ins, x.kd ≠ 1 ∧ x.kd ≠ 2
  | [], _, _, y, hy, _, _, _, _, _ => by cases hy
  | .out a :: r, lo, h, y, hy, e, ins, tz, fl, hq => by
    rcases List.mem_cons.1 hy with rfl | hy
    · cases hq
    · exact items_kinds r lo h.2 y hy e ins tz fl hq
  | .sess a i t f :: r, lo, ⟨_, h2, h3, _, _, h7⟩, y, hy, e, ins, tz, fl, hq => by
    rcases List.mem_cons.1 hy with rfl | hy
    · injection hq with q1 q2 q3 q4
      subst q1 q2
      exact ⟨h2, fun x hx => (h3 x hx).2.2⟩
    · exact items_kinds r t h7 y hy e ins tz fl hq
/-- Each part is of an event of the worker's, and of its kind. -/
theorem rise_of (s : SetP) (wk : Int) (l : List EvP) : ∀ x ∈ segsOf s wk l, ∃ e ∈ l, e.id = x.id ∧ e.wk = wk ∧ x.kd = kindP e.kd ∧ x.cd = e.cd ∧ (e.kd = 1 ∨ e.kd = 3 ∨ e.kd = 4 ∨ e.kd = 5 ∨ e.kd = 6) ∧ (e.kd = 4 ∨ e.cd = 0) := by
  intro x hx
  unfold segsOf at hx
  split at hx
  · next h =>
    have hM := check_iff.1 h
    have hup := itemsOf_up hM wk l
    have hall : ∀ y ∈ itemsOf s wk l, allI (fun e => e ∈ wevs (mayE s.places s.elements.length s.classes.length s.gears.length s.rates.length) wk l) y := items_all _ none trivial (fun b hb => hb)
    have hk := items_kinds _ 0 hup
    obtain ⟨y, hy, hxy⟩ := List.mem_flatMap.1 hx
    match y, hy, hxy with
    | .out a, _, hxy => cases hxy
    | .sess a ins tz fl, hy, hxy =>
      obtain ⟨e, he, h1, h2, h3⟩ := parts_of ins _ a x hxy
      have ha := hall _ hy
      obtain ⟨k1, k2⟩ := hk _ hy a ins tz fl rfl
      have hew : e ∈ wevs (mayE s.places s.elements.length s.classes.length s.gears.length s.rates.length) wk l := by
        rcases he with rfl | he
        · exact ha.1
        · exact ha.2 e he
      have hok := wevs_ok e hew
      have hf := hok.1.1
      have hkd : e.kd = 1 ∨ (e.kd ≠ 1 ∧ e.kd ≠ 2) := by
        rcases he with rfl | he
        · exact .inl k1
        · exact .inr (k2 e he)
      have hkb := hf.kd
      have h7 := hok.2.2.1
      exact ⟨e, ((wevs_mem _ wk l e).1 hew).1, h1.symm, hok.2.1, h2, h3, by omega, hf.code⟩
  · cases hx
end Go.Proofs.YtpgncbhahocmbaaGreat
