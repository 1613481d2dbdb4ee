/-
  The document's own answer of layer 12: the seconds of parts, of one kind; two lists that are the same.
  The document's own answer of layer 12: sessions.
  What layer 12's laws are walked by: a setup's facts; few.
  Package stream's watch in memory: its block, its two rows, the session that is open; what a step changes.
  The days that have some: how they are put, one by one.
  The calls whose answers layer 11's document fixes: they are as it says; two lists of numbers that are the same.
-/
import Derived.Test.YtbijaaglmhoopaaZat
import Derived.Test.YtbijaaglmhoopaaZax
import Derived.Test.YtbijaaglmhoopaaZaf
import Derived.Deep.SlicePairs
import Derived.Lib.SmallJoins
import Derived.ChangeArms
import Derived.OpenShut
import Derived.Deep.RegionHeld3
import Derived.Test.YtbijaaglmhoopaaZaq
import Derived.Test.YtbijaaglmhoopaaZam
import Derived.Deep.DeepCutAuto
import Derived.Test.YtbijaaglmhoopaaZad
import Derived.Test.YtbijaaglmhoopaaZaa
import Derived.Test.YtbijaaglmhoopaaProg
import Derived.Laws.Cover1
import Derived.WalkKit
import Derived.WalkLawsBesides
import Derived.Lib.Hide
import Derived.IntWalk
import Derived.Lib.SliceRun
import Derived.Test.YtbijaaglmhoopaaZac
import Derived.WalkMore
import Derived.ScopeJumps
import Derived.Laws.Slices
import Derived.RegionTactic
import Derived.Test.YtbijaaglmhoopaaZaj
import Derived.Test.YtbijaaglmhoopaaZag
import Derived.Test.YtbijaaglmhoopaaZar
import Derived.Test.YtbijaaglmhoopaaZas
namespace Go.Proofs.Ytbijaaglmhoopaa
open Go.RowKit
set_option linter.unusedVariables false
set_option linter.unusedSimpArgs false
set_option maxRecDepth 20000

def SegP.none : SegP := ⟨0, 0, 0, 0, 0⟩
def FlagP.none : FlagP := ⟨0, 0⟩
/-- What a slice of structs of numbers reads as. -/
theorem rows_cell {k : Nat} {w : World} {b off n c : Nat} {t : Rows2} (h : Sl k w (some ⟨b, off, none⟩) n c (ints .i64 t.flatten)) (hl : t.length = n) (hw : ∀ r ∈ t, r.length = k) {i j : Nat} (hi : i < n) (hj : j < k) : w.cell? ⟨b, off + i * k + j, none⟩ = some (.int .i64 ((t.getD i []).getD j 0)) := by
  have hti : i < t.length := by omega
  obtain ⟨_, ⟨h0, _, _⟩ | ⟨ad, e, hc⟩⟩ := h
  · cases h0
  · injection e with e
    subst e
    have hg := rows_get t hw i j hti hj []
    rw [List.append_nil] at hg
    have hlt : k * i + j < t.flatten.length := by
      rw [rows_len t hw]
      have : k * i + k ≤ k * t.length := by rw [← Nat.mul_succ]; exact Nat.mul_le_mul_left k hti
      omega
    have hu : (ints .i64 t.flatten)[k * i + j]? = some (.int .i64 ((t.getD i []).getD j 0)) := by
      rw [ints, List.getElem?_map, List.getElem?_eq_getElem hlt, Option.map_some, ← hg, List.getD_eq_getElem?_getD, List.getElem?_eq_getElem hlt, Option.getD_some]
    have := hc _ _ hu
    rw [tab_add, ← Nat.add_assoc, Nat.mul_comm] at this
    exact this
theorem rows_form {k : Nat} {w : World} {A : Option Addr} {n c : Nat} {t : Rows2} (h : Sl k w A n c (ints .i64 t.flatten)) (hk : 0 < k) (hn : 0 < n) : ∃ b off, A = some ⟨b, off, none⟩ := by
  obtain ⟨hl, ⟨_, h0, _⟩ | ⟨ad, rfl, hc⟩⟩ := h
  · omega
  · have hp : 0 < n * k := Nat.mul_pos hn hk
    obtain ⟨u, hu⟩ : ∃ u, (ints .i64 t.flatten)[0]? = some u := ⟨_, List.getElem?_eq_getElem (by omega)⟩
    have h0 := hc 0 u hu
    obtain ⟨b, off, sp⟩ := ad
    have hsp : sp = none := by simpa [Addr.add] using World.cell?_spot h0
    subst hsp
    exact ⟨b, off, rfl⟩
def Segs (w : World) (A : Option Addr) (n c : Nat) (l : List SegP) : Prop := Sl 5 w A n c (ints .i64 (l.map segL).flatten) ∧ l.length = n
theorem Segs.below {w w' : World} {A : Option Addr} {n c : Nat} {l : List SegP} (h : Segs w A n c l) (hb : Below w.heap.size w w') : Segs w' A n c l := ⟨h.1.below hb, h.2⟩
theorem Segs.form {w : World} {A : Option Addr} {n c : Nat} {l : List SegP} (h : Segs w A n c l) (hn : 0 < n) : ∃ b off, A = some ⟨b, off, none⟩ := rows_form h.1 (by omega) hn
theorem segs_num {w : World} {b off n c : Nat} {l : List SegP} (h : Segs w (some ⟨b, off, none⟩) n c l) {i : Nat} (hi : i < n) (x : SegP) (hx : l.getD i SegP.none = x) :
    w.cell? ⟨b, off + i * 5, none⟩ = some (.int .i64 x.fr) ∧ w.cell? ⟨b, off + i * 5 + 1, none⟩ = some (.int .i64 x.to) ∧ w.cell? ⟨b, off + i * 5 + 2, none⟩ = some (.int .i64 x.kd) ∧ w.cell? ⟨b, off + i * 5 + 3, none⟩ = some (.int .i64 x.id) ∧ w.cell? ⟨b, off + i * 5 + 4, none⟩ = some (.int .i64 x.cd) := by
  have hl := h.2
  have hw : ∀ r ∈ l.map segL, r.length = 5 := fun r hr => by obtain ⟨y, _, rfl⟩ := List.mem_map.1 hr; rfl
  have e : (l.map segL).getD i [] = segL x := by rw [← hx]; simp [List.getD, show i < l.length by omega]
  have g := fun j hj => rows_cell h.1 (by simpa using hl) hw hi (j := j) hj
  rw [e] at g
  exact ⟨g 0 (by omega), g 1 (by omega), g 2 (by omega), g 3 (by omega), g 4 (by omega)⟩
def Flgs (w : World) (A : Option Addr) (n c : Nat) (l : List FlagP) : Prop := Sl 2 w A n c (ints .i64 (l.map flagL).flatten) ∧ l.length = n
theorem Flgs.below {w w' : World} {A : Option Addr} {n c : Nat} {l : List FlagP} (h : Flgs w A n c l) (hb : Below w.heap.size w w') : Flgs w' A n c l := ⟨h.1.below hb, h.2⟩
theorem Flgs.form {w : World} {A : Option Addr} {n c : Nat} {l : List FlagP} (h : Flgs w A n c l) (hn : 0 < n) : ∃ b off, A = some ⟨b, off, none⟩ := rows_form h.1 (by omega) hn
theorem flgs_num {w : World} {b off n c : Nat} {l : List FlagP} (h : Flgs w (some ⟨b, off, none⟩) n c l) {i : Nat} (hi : i < n) (x : FlagP) (hx : l.getD i FlagP.none = x) :
    w.cell? ⟨b, off + i * 2, none⟩ = some (.int .i64 x.id) ∧ w.cell? ⟨b, off + i * 2 + 1, none⟩ = some (.int .i64 x.kd) := by
  have hl := h.2
  have hw : ∀ r ∈ l.map flagL, r.length = 2 := fun r hr => by obtain ⟨y, _, rfl⟩ := List.mem_map.1 hr; rfl
  have e : (l.map flagL).getD i [] = flagL x := by rw [← hx]; simp [List.getD, show i < l.length by omega]
  have g := fun j hj => rows_cell h.1 (by simpa using hl) hw hi (j := j) hj
  rw [e] at g
  exact ⟨g 0 (by omega), g 1 (by omega)⟩
theorem SRow.segs {w : World} {base n c : Nat} {A : Option Addr} {l : List SegP} (h : SRow w base A n c l) (hn : l.length = n) : Segs w A n c l := ⟨Sl.of_own h, hn⟩
theorem FRow.flgs {w : World} {base n c : Nat} {A : Option Addr} {l : List FlagP} (h : FRow w base A n c l) (hn : l.length = n) : Flgs w A n c l := ⟨Sl.of_own h, hn⟩
theorem wp_build_sp {o : Oper} {a : Act} {w : World} {K : Act → World → Prop} {Q : Exit → Act → World → Prop} {y : Operand} (p q : Int)
    (ho : o.op = .buildSlice 43 1 #[(0, y)]) (hy : a.eval y = .agg #[.int .i64 p, .int .i64 q])
    (h : K (a.put o.dst (.slice (some ⟨w.heap.size, 0, none⟩) 1 1)) (w.alloc (.cells #[.int .i64 p, .int .i64 q] 61))) : o.wp Try.prog a w K Q := by
  unfold Oper.wp execOp
  simp only [ho, List.map_toArray, List.map_cons, List.map_nil, hy]
  go_simp
  exact h
theorem wpList_build_s {ops : Array Oper} {rest : List Oper} {o : Oper} {a : Act} {w : World} {Q : Exit → Act → World → Prop} (hgd : Region.wanted o (yielded ops a.tmps) = true) {y : Operand} (x : SegP)
    (ho : o.op = .buildSlice 34 1 #[(0, y)]) (hy : a.eval y = .agg #[.int .i64 x.fr, .int .i64 x.to, .int .i64 x.kd, .int .i64 x.id, .int .i64 x.cd])
    (h : wpList Try.prog ops Q rest (a.put o.dst (.slice (some ⟨w.heap.size, 0, none⟩) 1 1)) (w.alloc (.cells #[.int .i64 x.fr, .int .i64 x.to, .int .i64 x.kd, .int .i64 x.id, .int .i64 x.cd] 41))) : wpList Try.prog ops Q (o :: rest) a w := by
  refine wpList_step fun K hK => ?_
  rw [if_pos hgd]
  exact wp_build_s x ho hy (hK _ _ h)
theorem take_snoc_s {l : List SegP} {i : Nat} (h : i < l.length) : l.take (i + 1) = l.take i ++ [l.getD i SegP.none] := by
  rw [List.take_succ_eq_append_getElem h]
  simp [List.getD, h]
set_option maxHeartbeats 4000000 in
theorem ssame_any (A B : Option Addr) (n c d : Nat) (l : List SegP) (w : World) (ha : Segs w A n c l) (hb : Segs w B n d l) (hn : n ≤ 1000000) :
    Calls Try.prog 15 #[.slice A n c, .slice B n d] w fun e w' => e = .returned (.bool true) ∧ Below w.heap.size w w' := by
  have HA := Lib.hid ha
  have HB := Lib.hid hb
  clear ha hb
  go_enter Try.func15, Try.ntmps15
  go_wp2
  go_loopw [5] (fun i wr => ∃ (k : Nat), k ≤ n ∧ i = .int .i64 k ∧ Below w.heap.size w wr) (fun i _ => n - (intOf i).toNat)
  case atStart => exact ⟨0, Nat.zero_le _, rfl, Below.refl _ _⟩
  case round =>
    obtain ⟨k, hk, rfl, hbw⟩ := hrel
    by_cases hlt : k < n
    · have HA1 := HA.out.below hbw
      have HB1 := HB.out.below hbw
      obtain ⟨b, off, rfl⟩ := HA1.form (by omega)
      obtain ⟨b', off', rfl⟩ := HB1.form (by omega)
      obtain ⟨x, hx⟩ : ∃ x, l.getD k SegP.none = x := ⟨_, rfl⟩
      obtain ⟨z0, z1, z2, z3, z4⟩ := segs_num HA1 hlt x hx
      obtain ⟨y0, y1, y2, y3, y4⟩ := segs_num HB1 hlt x hx
      have hb1 := cell_lt z0
      have hb2 := cell_lt y0
      have i0 : (0 : Int) ≤ (k : Int) := by omega
      have i1 : (k : Int) < (n : Int) := by omega
      clear HA1 HB1
      go_wp2
      go_quiet (fail)
      go_wp2
      go_roundw
      case rel => exact ⟨k + 1, by omega, by go_num, below_drewN hbw _⟩
      case measure => simp [intOf]; omega
    · obtain rfl : k = n := by omega
      go_wp2
      go_ret
      exact ⟨rfl, hbw⟩
set_option maxHeartbeats 4000000 in
theorem fsame_any (A B : Option Addr) (n c d : Nat) (l : List FlagP) (w : World) (ha : Flgs w A n c l) (hb : Flgs w B n d l) (hn : n ≤ 1000000) :
    Calls Try.prog 16 #[.slice A n c, .slice B n d] w fun e w' => e = .returned (.bool true) ∧ Below w.heap.size w w' := by
  have HA := Lib.hid ha
  have HB := Lib.hid hb
  clear ha hb
  go_enter Try.func16, Try.ntmps16
  go_wp2
  go_loopw [5] (fun i wr => ∃ (k : Nat), k ≤ n ∧ i = .int .i64 k ∧ Below w.heap.size w wr) (fun i _ => n - (intOf i).toNat)
  case atStart => exact ⟨0, Nat.zero_le _, rfl, Below.refl _ _⟩
  case round =>
    obtain ⟨k, hk, rfl, hbw⟩ := hrel
    by_cases hlt : k < n
    · have HA1 := HA.out.below hbw
      have HB1 := HB.out.below hbw
      obtain ⟨b, off, rfl⟩ := HA1.form (by omega)
      obtain ⟨b', off', rfl⟩ := HB1.form (by omega)
      obtain ⟨x, hx⟩ : ∃ x, l.getD k FlagP.none = x := ⟨_, rfl⟩
      obtain ⟨z0, z1⟩ := flgs_num HA1 hlt x hx
      obtain ⟨y0, y1⟩ := flgs_num HB1 hlt x hx
      have hb1 := cell_lt z0
      have hb2 := cell_lt y0
      have i0 : (0 : Int) ≤ (k : Int) := by omega
      have i1 : (k : Int) < (n : Int) := by omega
      clear HA1 HB1
      go_wp2
      go_quiet (fail)
      go_wp2
      go_roundw
      case rel => exact ⟨k + 1, by omega, by go_num, below_drewN hbw _⟩
      case measure => simp [intOf]; omega
    · obtain rfl : k = n := by omega
      go_wp2
      go_ret
      exact ⟨rfl, hbw⟩
def ofKind (k : Int) (s : SegP) : Bool := decide (s.kd = k)
theorem kind_filter (p : SegP → Bool) (l : List SegP) (k : Nat) (h : k < l.length) : (l.take (k + 1)).filter p = (l.take k).filter p ++ (if p (l.getD k SegP.none) = true then [l.getD k SegP.none] else []) := by
  rw [take_snoc_s h, List.filter_append]
  congr 1
  by_cases q : p (l.getD k SegP.none) = true
  · rw [if_pos q, List.filter_cons_of_pos q]; rfl
  · rw [if_neg q, List.filter_cons_of_neg q]; rfl
end Go.Proofs.Ytbijaaglmhoopaa

namespace Go.Proofs.Ytbijaaglmhoopaa
open Go.RowKit
set_option linter.unusedVariables false
set_option linter.unusedSimpArgs false
set_option maxRecDepth 20000

theorem STwo.drew {w0 w : World} {A B : Option Addr} {n c m d : Nat} {l : List SegP} {f : List FlagP} (h : STwo w0 w A n c l B m d f) : STwo w0 w.drew A n c l B m d f := ⟨h.a.drew, h.b.drew, h.ne, below_drew h.bel⟩
/-- What a worker's sessions are, of a setup. -/
def itemsOf (s : SetP) (wk : Int) (l : List EvP) : List ItemP := itemsS s.cap none (wevs (mayE s.places s.elements.length s.classes.length s.gears.length s.rates.length) wk l)
def segsOf (s : SetP) (wk : Int) (l : List EvP) : List SegP := if checkB s = true then segsS (fun t => roundP t s.unit) (itemsOf s wk l) else []
def flagsOf (s : SetP) (wk : Int) (l : List EvP) : List FlagP := if checkB s = true then flagsS (itemsOf s wk l) else []
/-- What Of answers. -/
def GivesT (w : World) (S : List SegP) (F : List FlagP) (e : Ending) (w' : World) : Prop :=
  ∃ A c B d, e = .returned (.tuple #[.slice A S.length c, .slice B F.length d]) ∧ STwo w w' A S.length c S B F.length d F
theorem wevs_ok {pl : Int} {nE nC nG nR : Nat} {wk : Int} {l : List EvP} : ∀ x ∈ wevs (mayE pl nE nC nG nR) wk l, x.May pl nE nC nG nR ∧ x.wk = wk ∧ x.kd ≠ 7 ∧ 0 ≤ x.tm ∧ x.tm ≤ 31449599 := fun x hx => by
  have h := ((wevs_mem _ wk l x).1 hx).2
  simp only [ofW, mayE, Bool.and_eq_true, decide_eq_true_eq] at h
  exact ⟨h.1.1, h.1.2, h.2, h.1.1.1.tm⟩
theorem wevs_len (may : EvP → Bool) (wk : Int) (l : List EvP) : (wevs may wk l).length ≤ l.length := by
  unfold wevs
  rw [← sortE_length l]
  exact List.length_filter_le _ _
end Go.Proofs.Ytbijaaglmhoopaa

namespace Go.Proofs.Ytbijaaglmhoopaa
open Go.RowKit
set_option linter.unusedVariables false
set_option linter.unusedSimpArgs false
set_option maxRecDepth 20000

/-- All that is asked of a setup's cells. -/
structure SetW (w : World) (s : SetP) (cs : Array Value) : Prop where
  c : SetC w s cs
  f : s.Fit
  q : SetS cs s.places s.elements.length s.classes.length s.gears.length s.rates.length
  u : cs[8]? = some (.int .i64 s.unit)
  k : cs[9]? = some (.int .i64 s.cap)
theorem SetW.below {w w' : World} {s : SetP} {cs : Array Value} (h : SetW w s cs) (hb : Below w.heap.size w w') : SetW w' s cs := ⟨h.c.below hb, h.f, h.q, h.u, h.k⟩
theorem setW_of {w : World} {s : SetP} {A1 A2 A3 A4 A5 A6 : Option Addr} {c1 c2 c3 c4 c5 c6 : Nat} {cs : Array Value} (h : setV s A1 A2 A3 A4 A5 A6 c1 c2 c3 c4 c5 c6 = .agg cs) (hs : SetAt w s A1 A2 A3 A4 A5 A6 c1 c2 c3 c4 c5 c6) (hf : s.Fit) : SetW w s cs := by
  have hC : SetC w s cs := ⟨A1, A2, A3, A4, A5, A6, c1, c2, c3, c4, c5, c6, h, hs⟩
  have h' := h
  unfold setV at h'
  injection h' with h'
  have hsz := hC.size
  subst h'
  exact ⟨hC, hf, ⟨hsz, by simp [Value.oneCell'], rfl, ⟨_, _, rfl⟩, ⟨_, _, rfl⟩, ⟨_, _, rfl⟩, ⟨_, _, rfl⟩⟩, rfl, rfl⟩
/-- A setup that has no unit of its own but this one. -/
theorem SetW.size {w : World} {s : SetP} {cs : Array Value} (h : SetW w s cs) : cs.size = 23 := h.q.size
set_option maxHeartbeats 2000000 in
theorem few12 (s : SetP) (cs : Array Value) (w : World) (hW : SetW w s cs) (A : Option Addr) (n c : Nat) (b : Bool) (hb : decide (s.Few ∧ n ≤ 100) = b) :
    Calls Try.prog 10 #[.agg cs, .slice A n c] w fun e w' => e = .returned (.bool b) ∧ Below w.heap.size w w' := by
  have HZ := Lib.hid hW.size
  have hb0 := bel_alloc (Below.refl w.heap.size w) (.cells cs 30)
  have HB0 := Lib.hid (Has.new w 30 cs rfl)
  cases hF : decide s.Few with
  | false =>
    have HC := Lib.hid (few_c (hW.c.below hb0) false hF)
    have hF' := of_decide_eq_false hF
    obtain rfl : b = false := by rw [← hb, decide_eq_false]; exact fun h => hF' h.1
    clear hW hF hF' hb
    go_enter Try.func10, Try.ntmps10
    go_wp2_with (refine wpList_exec (o := ⟨some 5, _, _, _, _, _⟩) (by rfl) (exec_load_st _ rfl rfl HB0.out HZ.out) ?_)
    refine HC.out.mono ?_
    rintro e w1 ⟨rfl, b1⟩
    have HB := Lib.hid (bel_on hb0 b1)
    clear b1 hb0
    go_wp2
    go_ret
    exact ⟨rfl, HB.out⟩
  | true =>
    have HC := Lib.hid (few_c (hW.c.below hb0) true hF)
    have hF' := of_decide_eq_true hF
    have hn : decide ((n : Int) ≤ 100) = b := by rw [← hb]; exact decide_eq_decide.2 ⟨fun h => ⟨hF', by omega⟩, fun h => by omega⟩
    clear hW hF hF' hb
    go_enter Try.func10, Try.ntmps10
    go_wp2_with (refine wpList_exec (o := ⟨some 5, _, _, _, _, _⟩) (by rfl) (exec_load_st _ rfl rfl HB0.out HZ.out) ?_)
    refine HC.out.mono ?_
    rintro e w1 ⟨rfl, b1⟩
    have HB := Lib.hid (bel_on hb0 b1)
    clear b1 hb0
    go_wp2
    go_ret
    exact ⟨ret_bool (by first | exact hn | simp [hn]), HB.out⟩
theorem GivesT.two {w w' : World} {S : List SegP} {F : List FlagP} {e : Ending} (h : GivesT w S F e w') : ∃ A c B d, e = .returned (.tuple #[.slice A S.length c, .slice B F.length d]) ∧ Segs w' A S.length c S ∧ Flgs w' B F.length d F ∧ Below w.heap.size w w' := by
  obtain ⟨A, c, B, d, h1, h2⟩ := h
  exact ⟨A, c, B, d, h1, SRow.segs h2.a rfl, FRow.flgs h2.b rfl, h2.bel⟩
theorem segsOf_len (s : SetP) (wk : Int) (l : List EvP) : (segsOf s wk l).length ≤ l.length := by
  unfold segsOf
  split
  · have := segs_len (fun t => roundP t s.unit) (cap := s.cap) (wevs (mayE s.places s.elements.length s.classes.length s.gears.length s.rates.length) wk l) none
    have h2 := wevs_len (mayE s.places s.elements.length s.classes.length s.gears.length s.rates.length) wk l
    unfold itemsOf
    simp only [stN] at this
    omega
  · simp
theorem flagsOf_len (s : SetP) (wk : Int) (l : List EvP) : (flagsOf s wk l).length ≤ l.length := by
  unfold flagsOf
  split
  · have := flags_len (cap := s.cap) (wevs (mayE s.places s.elements.length s.classes.length s.gears.length s.rates.length) wk l) none
    have h2 := wevs_len (mayE s.places s.elements.length s.classes.length s.gears.length s.rates.length) wk l
    unfold itemsOf
    simp only [openN] at this
    omega
  · simp
/-- The items of a setup that may be rise, from 0 on. -/
theorem itemsOf_up {s : SetP} (hM : s.May) (wk : Int) (l : List EvP) : ItemsUp s.cap 0 (itemsOf s wk l) := by
  have hc := hM.cap
  unfold itemsOf
  refine items_up (by omega) _ none 0 0 (Int.le_refl _) (fun b hb => (wevs_ok b hb).2.2.2.1) (risen_times (wevs_risen _ _ _))
theorem segsUp_fit : ∀ {l : List SegP} {lo : Int}, SegsUp lo l → 0 ≤ lo → ∀ s ∈ l, 0 ≤ s.fr ∧ s.fr < s.to
  | [], _, _, _, s, hs => by cases hs
  | x :: r, lo, ⟨h1, h2, h3⟩, h0, s, hs => by
    rcases List.mem_cons.1 hs with rfl | hs
    · exact ⟨by omega, h2⟩
    · exact segsUp_fit h3 (by omega) s hs
theorem segs_top {u : Int} (hu : 1 ≤ u) (hu' : u ≤ 100000000) : ∀ (l : List ItemP), ∀ s ∈ segsS (fun t => roundP t u) l, s.to ≤ 32054400
  | [], s, hs => by cases hs
  | .out e :: r, s, hs => by
    rw [segsS_cons] at hs
    rcases List.mem_append.1 hs with hs | hs
    · cases hs
    · exact segs_top hu hu' r s hs
  | .sess e ins tz fl :: r, s, hs => by
    rw [segsS_cons] at hs
    rcases List.mem_append.1 hs with hs | hs
    · have h1 := parts_win ins _ e (Int.le_refl _) s hs
      have h2 : roundP tz u ≤ 32054400 := by rw [roundP_up hu hu']; omega
      exact Int.le_trans h1.2.2 h2
    · exact segs_top hu hu' r s hs
theorem segsOf_up (s : SetP) (wk : Int) (l : List EvP) : SegsUp 0 (segsOf s wk l) ∧ ∀ x ∈ segsOf s wk l, 0 ≤ x.fr ∧ x.fr < x.to ∧ x.to ≤ 32054400 := by
  unfold segsOf
  split
  · next h =>
    have hM := check_iff.1 h
    have hu := hM.unit
    have h1 := segs_up (roundP_mono hu.1 (by omega)) _ 0 (itemsOf_up hM wk l)
    have h0 : roundP 0 s.unit = 0 := by
      have := roundP_near (t := 0) (u := s.unit) (by omega) (by omega) hu.1 (by omega)
      have h2 := roundP_up (t := 0) hu.1 (by omega)
      have ht : timeP 0 = 0 := by unfold timeP; omega
      rw [ht, Int.zero_ediv, Int.zero_emod, Int.mul_zero, if_neg (by omega)] at h2
      omega
    rw [h0] at h1
    exact ⟨h1, fun x hx => ⟨(segsUp_fit h1 (Int.le_refl _) x hx).1, (segsUp_fit h1 (Int.le_refl _) x hx).2, segs_top hu.1 (by omega) _ x hx⟩⟩
  · exact ⟨trivial, fun x hx => by cases hx⟩
theorem segsOf_fit (s : SetP) (wk : Int) (l : List EvP) : ∀ x ∈ segsOf s wk l, Fit x.fr ∧ Fit x.to := fun x hx => by
  have := (segsOf_up s wk l).2 x hx
  exact ⟨⟨by omega, by omega⟩, ⟨by omega, by omega⟩⟩
end Go.Proofs.Ytbijaaglmhoopaa

namespace Go.Proofs.Ytbijaaglmhoopaa
open Go.RowKit
set_option linter.unusedVariables false
set_option linter.unusedSimpArgs false
set_option maxRecDepth 20000

def OnB (A : Option Addr) (b : Nat) : Prop := ∃ a, A = some a ∧ a.block = b
/-- What lay at B or behind is as it was, but for the blocks M. -/
def Mv (B : Nat) (M : Nat → Prop) (w w' : World) : Prop := w.heap.size ≤ w'.heap.size ∧ ∀ b, B ≤ b → b < w.heap.size → ¬ M b → w'.heap[b]? = w.heap[b]?
/-- A slice's block is the one that it was, or a new one. -/
def Moved (w : World) (A A' : Option Addr) : Prop := ∀ b, OnB A' b → OnB A b ∨ w.heap.size ≤ b
def Off (A : Option Addr) (b : Nat) : Prop := ∀ a, A = some a → a.block ≠ b
def Offs (A C : Option Addr) : Prop := ∀ x y, A = some x → C = some y → x.block ≠ y.block
theorem Mv.refl (B : Nat) (M : Nat → Prop) (w : World) : Mv B M w w := ⟨Nat.le_refl _, fun _ _ _ _ => rfl⟩
theorem Mv.of_below {B : Nat} {M : Nat → Prop} {w w' : World} (h : Below w.heap.size w w') : Mv B M w w' := ⟨h.size, fun b _ hb _ => h.block b hb⟩
theorem Mv.on {B : Nat} {M : Nat → Prop} {w w1 w2 : World} (h : Mv B M w w1) (k : Mv B M w1 w2) : Mv B M w w2 :=
  ⟨Nat.le_trans h.1 k.1, fun b h0 h1 h2 => (k.2 b h0 (Nat.lt_of_lt_of_le h1 h.1) h2).trans (h.2 b h0 h1 h2)⟩
theorem Mv.less {B : Nat} {M M' : Nat → Prop} {w w' : World} (h : Mv B M w w') (hM : ∀ b, M b → M' b) : Mv B M' w w' := ⟨h.1, fun b h0 h1 h2 => h.2 b h0 h1 fun q => h2 (hM b q)⟩
theorem Mv.set {B : Nat} {M : Nat → Prop} {w w' : World} (h : Mv B M w w') {p : Addr} (hp : p.block < B ∨ M p.block ∨ w.heap.size ≤ p.block) (v : Value) : Mv B M w (w'.setCell p v) := by
  refine ⟨by have := h.1; simpa [World.setCell] using this, fun b h0 h1 h2 => ?_⟩
  rw [Below.heap_setCell w' p v b (by rintro rfl; rcases hp with hp | hp | hp; omega; exact h2 hp; omega)]
  exact h.2 b h0 h1 h2
theorem Has.mv {B : Nat} {M : Nat → Prop} {w w' : World} {g : Nat} {cs : Array Value} (h : Has w g cs) (k : Mv B M w w') (hg : B ≤ g) (hM : ¬ M g) : Has w' g cs := by
  have hl := h.size
  obtain ⟨t, h⟩ := h
  exact ⟨t, (k.2 g hg hl hM).trans h⟩
theorem kept_put {F : Nat → Prop} {a w : World} (h : Kept F a w) {p : Addr} (hp : ¬ F p.block) (v : Value) : Kept F a (w.setCell p v) := by
  refine ⟨h.os, h.tape, h.output, ?_, fun b hb => ?_⟩
  · have := Kept.size h
    simp [World.setCell]
    exact this
  · rw [Below.heap_setCell w p v b (by rintro rfl; exact hp hb)]
    exact h.block b hb
theorem TRow.far {e : TypeId} {k : Nat} {w : World} {base n c : Nat} {A : Option Addr} {rows : Rows2} (h : TRow e k w base A n c rows) {p : Addr} (hp : ∀ g, A = some g → g.block ≠ p.block) (u : Value) : TRow e k (w.setCell p u) base A n c rows :=
  h.keep fun g hg => Below.heap_setCell w p u _ (hp g hg)
theorem Moved.refl (w : World) (A : Option Addr) : Moved w A A := fun _ h => .inl h
theorem Offs.moved {A C A' : Option Addr} {w : World} (h : Offs A C) (hm : Moved w A A') (hC : ∀ y, C = some y → y.block < w.heap.size) : Offs A' C := by
  intro x y hx hy e
  rcases hm _ ⟨x, hx, rfl⟩ with ⟨a, ha, q⟩ | q
  · exact h a y ha hy (q.trans e)
  · have := hC y hy; omega
theorem Off.moved {A A' : Option Addr} {p : Nat} {w : World} (h : Off A p) (hm : Moved w A A') (hp : p < w.heap.size) : Off A' p := by
  intro x hx e
  rcases hm _ ⟨x, hx, rfl⟩ with ⟨a, ha, q⟩ | q
  · exact h a ha (q.trans e)
  · omega
theorem Offs.symm {A C : Option Addr} (h : Offs A C) : Offs C A := fun x y hx hy e => h y x hy hx e.symm

/-! ### The watch -/
structure Wat (w0 w : World) (g : Nat) (u cap : Int) (V : Value) (A : Option Addr) (n c : Nat) (S : List SegP) (C : Option Addr) (m d : Nat) (F : List FlagP) : Prop where
  gB : g < w0.heap.size
  h : Has w g #[.int .i64 u, .int .i64 cap, V, .slice A n c, .slice C m d]
  hn : S.length = n
  hm : F.length = m
  a : SRow w w0.heap.size A n c S
  b : FRow w w0.heap.size C m d F
  ne : Offs A C
  k : Kept (fun b => b < w0.heap.size ∧ b ≠ g) w0 w
section
variable {w0 w w' : World} {g : Nat} {u cap : Int} {V : Value} {A C : Option Addr} {n c m d : Nat} {S : List SegP} {F : List FlagP}
theorem Wat.start (hg : Has w0 g #[.int .i64 u, .int .i64 cap, V, .slice none 0 0, .slice none 0 0]) : Wat w0 w0 g u cap V none 0 0 [] none 0 0 [] :=
  ⟨hg.size, hg, rfl, rfl, TRow.nil _ _, TRow.nil _ _, fun x y h => (by cases h), Kept.refl _ _⟩
theorem Wat.size (h : Wat w0 w g u cap V A n c S C m d F) : w0.heap.size ≤ w.heap.size := h.k.size
theorem Wat.below (h : Wat w0 w g u cap V A n c S C m d F) (hb : Below w.heap.size w w') : Wat w0 w' g u cap V A n c S C m d F :=
  ⟨h.gB, h.h.below hb, h.hn, h.hm, h.a.below hb, h.b.below hb, h.ne, h.k.on (Kept.of_below hb fun i hi => by have := h.k.size; omega)⟩
theorem Wat.drew (h : Wat w0 w g u cap V A n c S C m d F) : Wat w0 w.drew g u cap V A n c S C m d F := h.below (below_drew (Below.refl _ _))
/-- The open session is another one. -/
theorem Wat.open (h : Wat w0 w g u cap V A n c S C m d F) (V' : Value) : Wat w0 (w.setCell ⟨g, 2, none⟩ V') g u cap V' A n c S C m d F :=
  ⟨h.gB, h.h.set 2 V', h.hn, h.hm, h.a.far (fun x hx => by have := (h.a.lt x hx).1; have := h.gB; show x.block ≠ g; omega) _, h.b.far (fun x hx => by have := (h.b.lt x hx).1; have := h.gB; show x.block ≠ g; omega) _, h.ne,
    kept_put h.k (p := ⟨g, 2, none⟩) (fun q => q.2 rfl) _⟩
theorem Wat.flag (h : Wat w0 w g u cap V A n c S C m d F) (x : FlagP) (hm : m ≤ 1000) {s : Nat} (hs : w.heap.size = s) :
    ∃ C' d' w', (Builtin.append_ #[35, 35] 35 #[.slice C m d, .slice (some ⟨s, 0, none⟩) 1 1]).run Try.prog (w.alloc (.cells #[.int .i64 x.id, .int .i64 x.kd] 53)) = .ok (.slice C' (m + 1) d') w' ∧
      Has w' g #[.int .i64 u, .int .i64 cap, V, .slice A n c, .slice C m d] ∧ Wat w0 (w'.setCell ⟨g, 4, none⟩ (.slice C' (m + 1) d')) g u cap V A n c S C' (m + 1) d' (F ++ [x]) ∧
      Mv w0.heap.size (OnB C) w (w'.setCell ⟨g, 4, none⟩ (.slice C' (m + 1) d')) ∧ Moved w C C' := by
  obtain ⟨C', d', w', h1, h2, h3, h4, h5⟩ := trow_one (t := 35) (e := 53) (k := 2) (by_ := 16) (z := .agg #[.int .i64 0, .int .i64 0]) Try.underlying35 flag_info rfl (by omega) (by omega) h.b (flagL x) rfl hm h.size hs
  have e0 : (ints .i64 (flagL x)).toArray = #[.int .i64 x.id, .int .i64 x.kd] := rfl
  rw [e0] at h1
  have hgl := h.h.size
  have hsz := h.size
  have hgB := h.gB
  have hbk : ∀ b, b < w.heap.size → Off C b → w'.heap[b]? = w.heap[b]? := h4
  have hg : Has w' g #[.int .i64 u, .int .i64 cap, V, .slice A n c, .slice C m d] := by
    obtain ⟨t, q⟩ := h.h
    exact ⟨t, (hbk g hgl fun a ha => by have := (h.b.lt a ha).1; omega).trans q⟩
  have hmv : Moved w C C' := by
    rintro b ⟨a, ha, rfl⟩
    rcases h5 a ha with ⟨e, q1, q2⟩ | q
    · exact .inl ⟨e, q1, q2.symm⟩
    · exact .inr q
  have ha' : SRow w' w0.heap.size A n c S := h.a.keep fun x hx => hbk x.block (h.a.lt x hx).2 fun y hy e => h.ne x y hx hy e.symm
  have hb' : FRow w' w0.heap.size C' (m + 1) d' (F ++ [x]) := by
    have e : (F ++ [x]).map flagL = F.map flagL ++ [flagL x] := by simp
    show TRow _ _ _ _ _ _ _ ((F ++ [x]).map flagL)
    rw [e]
    exact h2
  refine ⟨C', d', w', h1, hg, ⟨hgB, hg.set 4 _, h.hn, by simp [h.hm], ha'.far (fun x hx => by have := (h.a.lt x hx).1; show x.block ≠ g; omega) _, hb'.far (fun x hx => by have := (hb'.lt x hx).1; show x.block ≠ g; omega) _, ?_, ?_⟩, ?_, hmv⟩
  · exact (h.ne.symm.moved hmv fun y hy => (h.a.lt y hy).2).symm
  · exact kept_put (h.k.on (h3.less fun i hi => hi.1)) (p := ⟨g, 4, none⟩) (fun q => q.2 rfl) _
  · refine Mv.set ⟨h3.size, fun b hb0 hb1 hb2 => hbk b hb1 fun a ha e => hb2 ⟨a, ha, e⟩⟩ (.inl hgB) _
theorem Wat.seg (h : Wat w0 w g u cap V A n c S C m d F) (x : SegP) (hm : n ≤ 1000) {s : Nat} (hs : w.heap.size = s) :
    ∃ A' c' w', (Builtin.append_ #[34, 34] 34 #[.slice A n c, .slice (some ⟨s, 0, none⟩) 1 1]).run Try.prog (w.alloc (.cells #[.int .i64 x.fr, .int .i64 x.to, .int .i64 x.kd, .int .i64 x.id, .int .i64 x.cd] 41)) = .ok (.slice A' (n + 1) c') w' ∧
      Has w' g #[.int .i64 u, .int .i64 cap, V, .slice A n c, .slice C m d] ∧ Wat w0 (w'.setCell ⟨g, 3, none⟩ (.slice A' (n + 1) c')) g u cap V A' (n + 1) c' (S ++ [x]) C m d F ∧
      Mv w0.heap.size (OnB A) w w' ∧ Moved w A A' := by
  obtain ⟨A', c', w', h1, h2, h3, h4, h5⟩ := trow_one (t := 34) (e := 41) (k := 5) (by_ := 40) (z := .agg #[.int .i64 0, .int .i64 0, .int .i64 0, .int .i64 0, .int .i64 0]) Try.underlying34 seg_info rfl (by omega) (by omega) h.a (segL x) rfl hm h.size hs
  have e0 : (ints .i64 (segL x)).toArray = #[.int .i64 x.fr, .int .i64 x.to, .int .i64 x.kd, .int .i64 x.id, .int .i64 x.cd] := rfl
  rw [e0] at h1
  have hgl := h.h.size
  have hsz := h.size
  have hgB := h.gB
  have hbk : ∀ b, b < w.heap.size → Off A b → w'.heap[b]? = w.heap[b]? := h4
  have hg : Has w' g #[.int .i64 u, .int .i64 cap, V, .slice A n c, .slice C m d] := by
    obtain ⟨t, q⟩ := h.h
    exact ⟨t, (hbk g hgl fun a ha => by have := (h.a.lt a ha).1; omega).trans q⟩
  have hmv : Moved w A A' := by
    rintro b ⟨a, ha, rfl⟩
    rcases h5 a ha with ⟨e, q1, q2⟩ | q
    · exact .inl ⟨e, q1, q2.symm⟩
    · exact .inr q
  have hb' : FRow w' w0.heap.size C m d F := h.b.keep fun x hx => hbk x.block (h.b.lt x hx).2 fun y hy e => h.ne y x hy hx e
  have ha' : SRow w' w0.heap.size A' (n + 1) c' (S ++ [x]) := by
    have e : (S ++ [x]).map segL = S.map segL ++ [segL x] := by simp
    show TRow _ _ _ _ _ _ _ ((S ++ [x]).map segL)
    rw [e]
    exact h2
  refine ⟨A', c', w', h1, hg, ⟨hgB, hg.set 3 _, by simp [h.hn], h.hm, ha'.far (fun x hx => by have := (ha'.lt x hx).1; show x.block ≠ g; omega) _, hb'.far (fun x hx => by have := (hb'.lt x hx).1; show x.block ≠ g; omega) _, ?_, ?_⟩, ?_, hmv⟩
  · exact h.ne.moved hmv fun y hy => (h.b.lt y hy).2
  · exact kept_put (h.k.on (h3.less fun i hi => hi.1)) (p := ⟨g, 3, none⟩) (fun q => q.2 rfl) _
  · exact ⟨h3.size, fun b hb0 hb1 hb2 => hbk b hb1 fun a ha e => hb2 ⟨a, ha, e⟩⟩
/-- What a step that moves blocks of its own leaves. -/
theorem Wat.mv {M : Nat → Prop} (h : Wat w0 w g u cap V A n c S C m d F) (k : Mv w0.heap.size M w w') (hg : w'.heap[g]? = w.heap[g]?) (hA : ∀ x, A = some x → ¬ M x.block) (hC : ∀ x, C = some x → ¬ M x.block) (hk : Kept (fun b => b < w0.heap.size ∧ b ≠ g) w w') :
    Wat w0 w' g u cap V A n c S C m d F := by
  refine ⟨h.gB, ?_, h.hn, h.hm, h.a.keep fun x hx => k.2 _ (h.a.lt x hx).1 (h.a.lt x hx).2 (hA x hx), h.b.keep fun x hx => k.2 _ (h.b.lt x hx).1 (h.b.lt x hx).2 (hC x hx), h.ne, h.k.on hk⟩
  obtain ⟨t, q⟩ := h.h
  exact ⟨t, hg.trans q⟩
end

/-! ### The open session -/
def sesC (e : EvP) (V : Value) : Array Value := #[.int .i64 e.id, .int .i64 e.wk, .int .i64 e.tm, .int .i64 e.kd, .int .i64 e.fr, .int .i64 e.to, .int .i64 e.el, .int .i64 e.un, .int .i64 e.cl, .int .i64 e.ge, .int .i64 e.cd, V]
structure Ses (w0 w : World) (p : Nat) (e : EvP) (D : Option Addr) (q r : Nat) (ins : List EvP) : Prop where
  pB : w0.heap.size ≤ p
  h : Has w p (sesC e (.slice D q r))
  hq : ins.length = q
  r : ERow w w0.heap.size D q r ins
  ne : Off D p
structure Apt (p : Nat) (A C D : Option Addr) : Prop where
  ap : Off A p
  cp : Off C p
  da : Offs D A
  dc : Offs D C
section
variable {w0 w w' : World} {p : Nat} {e : EvP} {D : Option Addr} {q r : Nat} {ins : List EvP}
theorem Ses.below (h : Ses w0 w p e D q r ins) (hb : Below w.heap.size w w') : Ses w0 w' p e D q r ins := ⟨h.pB, h.h.below hb, h.hq, h.r.below hb, h.ne⟩
theorem Ses.drew (h : Ses w0 w p e D q r ins) : Ses w0 w.drew p e D q r ins := h.below (below_drew (Below.refl _ _))
theorem Ses.mv {M : Nat → Prop} (h : Ses w0 w p e D q r ins) (k : Mv w0.heap.size M w w') (hp : ¬ M p) (hD : ∀ x, D = some x → ¬ M x.block) : Ses w0 w' p e D q r ins :=
  ⟨h.pB, h.h.mv k h.pB hp, h.hq, h.r.keep fun x hx => k.2 _ (h.r.lt x hx).1 (h.r.lt x hx).2 (hD x hx), h.ne⟩
/-- One event more in it. -/
theorem Ses.push (h : Ses w0 w p e D q r ins) (x : EvP) (hm : q ≤ 1000) (hB : w0.heap.size ≤ w.heap.size) {s : Nat} (hs : w.heap.size = s) :
    ∃ D' r' w', (Builtin.append_ #[31, 31] 31 #[.slice D q r, .slice (some ⟨s, 0, none⟩) 1 1]).run Try.prog (w.alloc (.cells (evC x) 39)) = .ok (.slice D' (q + 1) r') w' ∧
      Has w' p (sesC e (.slice D q r)) ∧ Ses w0 (w'.setCell ⟨p, 11, none⟩ (.slice D' (q + 1) r')) p e D' (q + 1) r' (ins ++ [x]) ∧
      Mv w0.heap.size (OnB D) w w' ∧ Moved w D D' ∧ Kept (fun b => b < w0.heap.size) w w' := by
  obtain ⟨D', r', w', h1, h2, h3, h4, h5⟩ := trow_one (t := 31) (e := 39) (k := 11) (by_ := 88) (z := .agg (evC EvP.none)) Try.underlying31 ev_info rfl (by omega) (by omega) h.r (evLs x) rfl hm hB hs
  have e0 : (ints .i64 (evLs x)).toArray = evC x := rfl
  rw [e0] at h1
  have hbk : ∀ b, b < w.heap.size → Off D b → w'.heap[b]? = w.heap[b]? := h4
  have hmv : Moved w D D' := by
    rintro b ⟨a, ha, rfl⟩
    rcases h5 a ha with ⟨e, q1, q2⟩ | q
    · exact .inl ⟨e, q1, q2.symm⟩
    · exact .inr q
  have hg : Has w' p (sesC e (.slice D q r)) := by
    have hl := h.h.size
    obtain ⟨t, q⟩ := h.h
    exact ⟨t, (hbk p hl h.ne).trans q⟩
  have hne : Off D' p := h.ne.moved hmv h.h.size
  have hr' : ERow w' w0.heap.size D' (q + 1) r' (ins ++ [x]) := by
    have e : (ins ++ [x]).map evLs = ins.map evLs ++ [evLs x] := by simp
    show TRow _ _ _ _ _ _ _ ((ins ++ [x]).map evLs)
    rw [e]
    exact h2
  exact ⟨D', r', w', h1, hg, ⟨h.pB, hg.set 11 _, by simp [h.hq], hr'.far (fun x hx => hne x hx) _, hne⟩, ⟨h3.size, fun b hb0 hb1 hb2 => hbk b hb1 fun a ha e => hb2 ⟨a, ha, e⟩⟩, hmv, h3⟩
end
end Go.Proofs.Ytbijaaglmhoopaa

namespace Go.Proofs.Ytbijaaglmhoopaa
open Go.RowKit
set_option linter.unusedVariables false
set_option linter.unusedSimpArgs false
set_option maxRecDepth 20000

/-! ### A number more -/
theorem NRow.far {w : World} {base c : Nat} {A : Option Addr} {xs : List Int} (h : NRow w base A c xs) {p : Addr} (hp : ∀ g, A = some g → g.block ≠ p.block) (u : Value) : NRow (w.setCell p u) base A c xs :=
  h.keep fun g hg => Below.heap_setCell w p u _ (hp g hg)

end Go.Proofs.Ytbijaaglmhoopaa

namespace Go.Proofs.Ytbijaaglmhoopaa
open Go.RowKit
set_option linter.unusedVariables false
set_option linter.unusedSimpArgs false
set_option maxRecDepth 20000

theorem round_bel (t u r : Int) (w : World) (hu' : u ≤ 9223372036854775807) (hr : roundP t u = r) : Calls Try.prog 21 #[.int .i64 t, .int .i64 u] w fun e w' => e = .returned (.int .i64 r) ∧ Below w.heap.size w w' := by
  subst hr
  refine (round_any t u w hu').mono ?_
  rintro e w' ⟨rfl, n, rfl⟩
  exact ⟨rfl, below_drewN (Below.refl _ _) n⟩
end Go.Proofs.Ytbijaaglmhoopaa
