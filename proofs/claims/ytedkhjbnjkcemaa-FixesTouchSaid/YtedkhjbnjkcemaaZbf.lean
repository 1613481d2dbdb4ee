/-
  The calls whose answers the document fixes, at the head of layer 13's laws.
  What layer 13's laws are walked by: a setup's facts; few; a correction that came in; whole corrections loaded.
-/
import Derived.Test.YtedkhjbnjkcemaaZbd
import Derived.Test.YtedkhjbnjkcemaaZbe
import Derived.Deep.DeepCutAuto
import Derived.Test.YtedkhjbnjkcemaaZae
import Derived.Test.YtedkhjbnjkcemaaZad
namespace Go.Proofs.Ytedkhjbnjkcemaa
open Go.RowKit
set_option linter.unusedVariables false
set_option linter.unusedSimpArgs false
set_option maxRecDepth 20000

def aw13C (N : Nat) : Array Value := #[.int .i64 1, .slice none 0 0, .int .i64 0, .int .i64 0, .slice none 0 0, .slice none 0 0, .slice none 0 0, .int .i64 0, .int .i64 900, .int .i64 3600, .int .i64 0, .int .i64 0, .int .i64 0, .int .i64 0, .int .i64 0, .int .i64 0, .int .i64 0, .int .i64 0, .slice (some ⟨N, 0, none⟩) 2 2, .int .i64 0, .int .i64 0, .int .i64 0, .slice none 0 0]
theorem aw13C_one (N : Nat) : (aw13C N).all (·.oneCell') = true := by simp [aw13C, Value.oneCell']
theorem aw13C_set (N : Nat) : SetS (aw13C N) 1 0 0 0 2 := ⟨rfl, aw13C_one N, rfl, ⟨_, _, rfl⟩, ⟨_, _, rfl⟩, ⟨_, _, rfl⟩, ⟨_, _, rfl⟩⟩
def ax0 : EvP := ⟨1, 0, 100, 1, 0, 0, 0, 0, 0, 0, 0⟩
def ax1 : EvP := ⟨2, 0, 200, 2, 0, 0, 0, 0, 0, 0, 0⟩
def ax2 : EvP := ⟨1, 1, 604800, 1, 0, 0, 0, 0, 0, 0, 0⟩
def ax3 : EvP := ⟨2, 0, 0, 1, 0, 0, 0, 0, 0, 0, 0⟩
def ax4 : EvP := ⟨3, 0, 0, 0, 0, 0, 0, 0, 0, 0, 0⟩
def axL : List EvP := [ax0, ax1]
def axC : Array Value := (ints .i64 (axL.map evLs).flatten).toArray
theorem ax_in {e : EvP} (h : e = ax0 ∨ e = ax1 ∨ e = ax2 ∨ e = ax3 ∨ e = ax4 ∨ e = EvP.none) : e.In := by
  rcases h with rfl | rfl | rfl | rfl | rfl | rfl <;> constructor <;> decide
theorem axL_in : ∀ e ∈ axL, e.In := by
  intro e he
  simp only [axL, List.mem_cons, List.not_mem_nil, or_false] at he
  rcases he with rfl | rfl <;> exact ax_in (by simp)
theorem ax_may2 : decide (ax2.May 1 0 0 0 2) = true := by decide
theorem ax_may3 : decide (ax3.May 1 0 0 0 2) = true := by decide
theorem ax_r3 : applyE true axL 3 ax2 = ([ax1, ax2], 0) := by decide +kernel
theorem ax_r4 : applyE true axL 1 ax3 = ([], 130) := by decide +kernel
theorem ax_r5 (b : Bool) : applyE b axL 2 ax4 = ([], 131) := by cases b <;> decide +kernel
theorem ax_r6 (b : Bool) : applyE b axL 4 EvP.none = ([], 80) := by cases b <;> decide +kernel
theorem ax_find : findE axL 2 = ax1 ∧ (ixE axL 2).isSome = true := by decide +kernel
theorem ax_touch : touchedK 900 3600 (movedE axL 3 ax2) = [⟨0, 0⟩, ⟨1, 0⟩, ⟨1, 1⟩] := by decide +kernel
theorem ax_ev {w : World} {g : Nat} (h : Has w g axC) : Evs w (some ⟨g, 0, none⟩) 2 2 axL := by
  refine ⟨⟨rfl, .inr ⟨_, rfl, fun j u hu => ?_⟩⟩, rfl⟩
  rw [tab_add, Nat.zero_add]
  exact h.cell j (by unfold axC; simpa using hu)
theorem kys_has {w : World} {g : Nat} {l : List KeyP} {n : Nat} (h : Has w g (ints .i64 (l.map kyL).flatten).toArray) (hn : l.length = n) : Kys w (some ⟨g, 0, none⟩) n n l := by
  refine ⟨⟨by rw [kys_len, hn], .inr ⟨_, rfl, fun j u hu => ?_⟩⟩, hn⟩
  rw [tab_add, Nat.zero_add]
  exact h.cell j (by simpa using hu)
set_option maxHeartbeats 8000000 in
theorem awake13 (w : World) : Calls Try.prog 8 #[] w fun e w' => e = .returned (.bool true) ∧ Below w.heap.size w w' := by
  have HO := Lib.hid (aw13C_one w.heap.size)
  have HZ : Hid ((aw13C w.heap.size).size = 23) := Lib.hid rfl
  have HSS := Lib.hid (aw13C_set w.heap.size)
  have H8 : Hid ((aw13C w.heap.size)[8]? = some (.int .i64 900)) := Lib.hid rfl
  have H9 : Hid ((aw13C w.heap.size)[9]? = some (.int .i64 3600)) := Lib.hid rfl
  go_enter Try.func8, Try.ntmps8
  go_upto_region 1 with fail
  go_cut [1] (fun v2 wx => ∃ g : Nat, v2 = .pointer (some ⟨g, 0, none⟩) ∧ Hid (Has wx g (aw13C w.heap.size)) ∧ Hid (Below w.heap.size w wx))
  case first =>
    go_wp2_with (first | refine wpList_laidS (aw13C w.heap.size) 1 _ _ rfl rfl rfl rfl rfl rfl rfl rfl HZ.out HO.out ?_)
    go_meet
    refine ⟨_, rfl, ?_, ?_⟩
    · exact Has.new _ _ _ rfl
    · show Below _ _ _
      (repeat' (first | with_reducible exact Below.refl _ _ | with_reducible assumption | with_reducible refine bel_alloc ?_ _ | with_reducible refine bel_set ?_ ?_ _ | with_reducible refine below_drewN ?_ _ | with_reducible refine below_drew ?_ | (simp; done) | (simp; omega) | omega))
  case rest =>
    obtain ⟨g, rfl, HB, HBW⟩ := hcut
    generalize aw13C w.heap.size = cs at *
    go_upto_region 2 with fail
    go_cut [2] (fun v3 wx => ∃ g3 : Nat, v3 = .slice (some ⟨g3, 0, none⟩) 2 2 ∧ Hid (Has wx g3 axC) ∧ Hid (Has wx g cs) ∧ Hid (Below w.heap.size w wx))
    case first =>
      go_wp2_with fail
      go_meet
      refine ⟨_, rfl, ?_, ?_, ?_⟩
      · exact Has.new _ _ _ rfl
      · exact HB.out.alloc _
      · exact bel_alloc HBW.out _
    case rest =>
      clear HB HBW
      obtain ⟨g3, rfl, HE, HB, HBW⟩ := hcut
      have HEV := Lib.hid (ax_ev HE.out)
      clear HE
      go_wp2_with (refine wpList_exec (o := ⟨some 20, _, _, _, _, _⟩) (by rfl) (exec_load_st _ rfl rfl HB.out HZ.out) ?_)
      refine (apply_any HSS.out (some ⟨g3, 0, none⟩) 2 2 axL 3 ax2 _ HEV.out ⟨by omega, by omega⟩ (by omega) (ax_in (by simp)) _ ax_may2).mono ?_
      rw [ax_r3]
      rintro e w1 ⟨A1, n1, c1, rfl, he1, _, _, hb1⟩
      obtain rfl : n1 = 2 := he1.2.symm
      have HA1 := Lib.hid he1
      have HB1 := Lib.hid (HB.out.below hb1)
      have HEV1 := Lib.hid (HEV.out.below hb1)
      have HW1 := Lib.hid (bel_on HBW.out hb1)
      clear he1 hb1 HB HEV HBW
      go_wp2_with (refine wpList_exec (o := ⟨some 28, _, _, _, _, _⟩) (by rfl) (exec_load_st _ rfl rfl HB1.out HZ.out) ?_)
      refine (apply_any HSS.out (some ⟨g3, 0, none⟩) 2 2 axL 1 ax3 _ HEV1.out ⟨by omega, by omega⟩ (by omega) (ax_in (by simp)) _ ax_may3).mono ?_
      rw [ax_r4]
      rintro e w2 ⟨A2, n2, c2, rfl, _, _, _, hb2⟩
      have HA2 := Lib.hid (HA1.out.below hb2)
      have HB2 := Lib.hid (HB1.out.below hb2)
      have HEV2 := Lib.hid (HEV1.out.below hb2)
      have HW2 := Lib.hid (bel_on HW1.out hb2)
      clear hb2 HA1 HB1 HEV1 HW1
      go_wp2_with (refine wpList_exec (o := ⟨some 36, _, _, _, _, _⟩) (by rfl) (exec_load_st _ rfl rfl HB2.out HZ.out) ?_)
      refine (apply_any HSS.out (some ⟨g3, 0, none⟩) 2 2 axL 2 ax4 _ HEV2.out ⟨by omega, by omega⟩ (by omega) (ax_in (by simp)) _ rfl).mono ?_
      rw [ax_r5]
      rintro e w3 ⟨A3, n3, c3, rfl, _, _, _, hb3⟩
      have HA3 := Lib.hid (HA2.out.below hb3)
      have HB3 := Lib.hid (HB2.out.below hb3)
      have HEV3 := Lib.hid (HEV2.out.below hb3)
      have HW3 := Lib.hid (bel_on HW2.out hb3)
      clear hb3 HA2 HB2 HEV2 HW2
      go_wp2_with (refine wpList_exec (o := ⟨some 44, _, _, _, _, _⟩) (by rfl) (exec_load_st _ rfl rfl HB3.out HZ.out) ?_)
      refine (apply_any HSS.out (some ⟨g3, 0, none⟩) 2 2 axL 4 EvP.none _ HEV3.out ⟨by omega, by omega⟩ (by omega) (ax_in (by simp)) _ rfl).mono ?_
      rw [ax_r6]
      rintro e w4 ⟨A4, n4, c4, rfl, _, _, _, hb4⟩
      have HA4 := Lib.hid (HA3.out.below hb4)
      have HB4 := Lib.hid (HB3.out.below hb4)
      have HEV4 := Lib.hid (HEV3.out.below hb4)
      have HW4 := Lib.hid (bel_on HW3.out hb4)
      clear hb4 HA3 HB3 HEV3 HW3
      go_wp2_with fail
      refine (find_any (some ⟨g3, 0, none⟩) 2 2 axL 2 _ HEV4.out (by omega)).mono ?_
      rw [ax_find.1, ax_find.2]
      rintro e w5 ⟨rfl, hb5⟩
      have hb6 := bel_on hb5 (bel_alloc (Below.refl w5.heap.size w5) (.cells (evC ax1) 33))
      have HX6 := Lib.hid (Has.new w5 33 (evC ax1) rfl)
      have HA6 := Lib.hid (HA4.out.below hb6)
      have HB6 := Lib.hid (HB4.out.below hb6)
      have HEV6 := Lib.hid (HEV4.out.below hb6)
      have HW6 := Lib.hid (bel_on HW4.out hb6)
      clear hb5 hb6 HA4 HB4 HEV4 HW4
      go_wp2_with (first | refine wpList_laid_e (evC ax1) 11 _ _ rfl rfl rfl rfl rfl rfl rfl rfl rfl (evC_one _) ?_ | refine wpList_exec (o := ⟨some 55, _, _, _, _, _⟩) (by rfl) (exec_load_st _ rfl rfl HB6.out HZ.out) ?_)
      refine (touched_any HSS.out H8.out H9.out (some ⟨g3, 0, none⟩) 2 2 axL 3 ax2 _ HEV6.out ⟨by omega, by omega⟩ (by omega) (ax_in (by simp)) axL_in).mono ?_
      rw [ax_touch]
      rintro e w7 ⟨A7, n7, c7, rfl, hk7, _, hb7⟩
      obtain rfl : n7 = 3 := hk7.2.symm
      have HK7 := Lib.hid hk7
      have HX7 := Lib.hid (HX6.out.below hb7)
      have HA7 := Lib.hid (HA6.out.below hb7)
      have HW7 := Lib.hid (bel_on HW6.out hb7)
      clear hk7 hb7 HA6 HB6 HEV6 HX6 HW6 HSS H8 H9 HZ HO
      obtain ⟨b, off, rfl⟩ := HA7.out.form (by decide)
      obtain ⟨x0, x1, x2, x3, x4⟩ := evs_num HA7.out (i := 0) (by decide) ax1 rfl
      obtain ⟨y0, y1, y2, y3, y4⟩ := evs_num HA7.out (i := 1) (by decide) ax2 rfl
      have z2 := HX7.out.cell 2 (v := .int .i64 200) rfl
      have zz := cell_lt z2
      have zb := cell_lt x0
      simp [ax1, ax2] at x0 x1 x2 x3 x4 y0 y1 y2 y3 y4 zb
      go_wp2_with fail
      refine (rsamek_any A7 _ 3 3 c7 3 [⟨0, 0⟩, ⟨1, 0⟩, ⟨1, 1⟩] [⟨0, 0⟩, ⟨1, 0⟩, ⟨1, 1⟩] _ (HK7.out.below (bel_alloc (Below.refl _ _) _)) (kys_has (Has.new _ _ _ rfl) rfl) (by omega) (by omega) true (by decide)).mono ?_
      rintro e w8 ⟨rfl, hb8⟩
      have HW8 := Lib.hid (bel_on (bel_alloc HW7.out (.cells #[.int .i64 0, .int .i64 0, .int .i64 1, .int .i64 0, .int .i64 1, .int .i64 1] 56)) hb8)
      clear hb8
      go_wp2
      go_ret
      exact ⟨rfl, HW8.out⟩
end Go.Proofs.Ytedkhjbnjkcemaa

namespace Go.Proofs.Ytedkhjbnjkcemaa
open Go.RowKit Go.Deep Go.WideShapes
set_option linter.unusedVariables false
set_option linter.unusedSimpArgs false
set_option maxRecDepth 20000

/-- All that is asked of a setup's cells. -/
structure SetF (w : World) (s : SetP) (cs : Array Value) : Prop where
  c : SetC w s cs
  f : s.Fit
  q : SetS cs s.places s.elements.length s.classes.length s.gears.length s.rates.length
  u : cs[8]? = some (.int .i64 s.unit)
  k : cs[9]? = some (.int .i64 s.cap)
theorem SetF.below {w w' : World} {s : SetP} {cs : Array Value} (h : SetF w s cs) (hb : Below w.heap.size w w') : SetF w' s cs := ⟨h.c.below hb, h.f, h.q, h.u, h.k⟩
theorem setF_of {w : World} {s : SetP} {A1 A2 A3 A4 A5 A6 : Option Addr} {c1 c2 c3 c4 c5 c6 : Nat} {cs : Array Value} (h : setV s A1 A2 A3 A4 A5 A6 c1 c2 c3 c4 c5 c6 = .agg cs) (hs : SetAt w s A1 A2 A3 A4 A5 A6 c1 c2 c3 c4 c5 c6) (hf : s.Fit) : SetF w s cs := by
  have hC : SetC w s cs := ⟨A1, A2, A3, A4, A5, A6, c1, c2, c3, c4, c5, c6, h, hs⟩
  have h' := h
  unfold setV at h'
  injection h' with h'
  have hsz := hC.size
  subst h'
  exact ⟨hC, hf, ⟨hsz, by simp [Value.oneCell'], rfl, ⟨_, _, rfl⟩, ⟨_, _, rfl⟩, ⟨_, _, rfl⟩, ⟨_, _, rfl⟩⟩, rfl, rfl⟩
theorem SetF.size {w : World} {s : SetP} {cs : Array Value} (h : SetF w s cs) : cs.size = 23 := h.q.size
set_option maxHeartbeats 2000000 in
theorem few13 (s : SetP) (cs : Array Value) (w : World) (hW : SetF w s cs) (A : Option Addr) (n c : Nat) (b : Bool) (hb : decide (s.Few ∧ n ≤ 100) = b) :
    Calls Try.prog 9 #[.agg cs, .slice A n c] w fun e w' => e = .returned (.bool b) ∧ Below w.heap.size w w' := by
  have HZ := Lib.hid hW.size
  have hb0 := bel_alloc (Below.refl w.heap.size w) (.cells cs 30)
  have HB0 := Lib.hid (Has.new w 30 cs rfl)
  cases hF : decide s.Few with
  | false =>
    have HC := Lib.hid (few_c (hW.c.below hb0) false hF)
    have hF' := of_decide_eq_false hF
    obtain rfl : b = false := by rw [← hb, decide_eq_false]; exact fun h => hF' h.1
    clear hW hF hF' hb
    go_enter Try.func9, Try.ntmps9
    go_wp2_with (refine wpList_exec (o := ⟨some 5, _, _, _, _, _⟩) (by rfl) (exec_load_st _ rfl rfl HB0.out HZ.out) ?_)
    refine HC.out.mono ?_
    rintro e w1 ⟨rfl, b1⟩
    have HB := Lib.hid (bel_on hb0 b1)
    clear b1 hb0
    go_wp2
    go_ret
    exact ⟨rfl, HB.out⟩
  | true =>
    have HC := Lib.hid (few_c (hW.c.below hb0) true hF)
    have hF' := of_decide_eq_true hF
    have hn : decide ((n : Int) ≤ 100) = b := by rw [← hb]; exact decide_eq_decide.2 ⟨fun h => ⟨hF', by omega⟩, fun h => by omega⟩
    clear hW hF hF' hb
    go_enter Try.func9, Try.ntmps9
    go_wp2_with (refine wpList_exec (o := ⟨some 5, _, _, _, _, _⟩) (by rfl) (exec_load_st _ rfl rfl HB0.out HZ.out) ?_)
    refine HC.out.mono ?_
    rintro e w1 ⟨rfl, b1⟩
    have HB := Lib.hid (bel_on hb0 b1)
    clear b1 hb0
    cases b with
    | false =>
      have hn' := of_decide_eq_false hn
      have hnI : ¬ (n : Int) ≤ 100 := hn'
      go_wp2
      go_ret
      exact ⟨rfl, HB.out⟩
    | true =>
      have hn' := of_decide_eq_true hn
      have hnI : (n : Int) ≤ 100 := hn'
      go_wp2
      go_ret
      exact ⟨rfl, HB.out⟩
theorem numsT_fix : NumsT Try.prog 35 12 := alli_struct Try.underlying35 (by kernel_rfl)
  ⟨rfl, nums_at_e numsT_int_e (by kernel_rfl), by kernel_rfl, nums_at_e numsT_event (by kernel_rfl), by change _ = _; kernel_rfl⟩
theorem fix_open {H : Type} {enc : TypeId × Value → H} {w : World} {r : Reach} {b0 base : Nat} {held : Bool} {v : Value} {d : DataW H} {p : List MemPlace}
    (hv : Value.okWide Try.prog w r b0 35 v) (h : DataW.Trod enc Try.prog w base (fun _ => true) held 35 v d p) : ∃ (k : Int) (e : EvP), v = .agg (fixC k e) ∧ (-9223372036854775808 ≤ k ∧ k ≤ 9223372036854775807) ∧ e.In := by
  obtain ⟨cs, rfl, hsz⟩ := okWide_struct Try.underlying35 hv
  obtain ⟨fuel, hfu⟩ := h
  obtain ⟨zs, hl, hcs, hb⟩ := numsT_fix H enc w base _ held fuel _ _ hfu
  match zs, hl with
  | k :: zs, hl =>
    obtain ⟨e, he, hin⟩ := ev_of_list (zs := zs) (by simpa using hl) (fun z hz => hb z (by simp [hz]))
    refine ⟨k, e, ?_, hb k (by simp), hin⟩
    have e2 : cs = fixC k e := by
      apply Array.toList_inj.1
      have e1 : cs.toList = ints .i64 (k :: zs) := hcs
      rw [e1, ← he]
      rfl
    rw [e2]
theorem exec_load_fx {o : Oper} {ρ : Operand → Value} {ww : World} (x : Operand) (ho : o.op = .load 35 x) {g : Nat} (hx : ρ x = .pointer (some ⟨g, 0, none⟩)) {cs : Array Value} (hg : Has ww g cs) (hs : cs.size = 12) :
    (execOp ρ o).run Try.prog ww = .ok (.value (.agg cs)) ww := by
  obtain ⟨t, hg⟩ := hg
  unfold execOp
  simp only [ho, hx, Instr.loadAt, Instr.sureAddr, Sem.run_bind, Sem.run_pure, Result.andThen_ok, run_loadVar_row (P := Try.prog) ww g t 35 cs (0, 0) _ hg Try.underlying35 rfl (by rw [hs]; kernel_rfl)]
theorem has_load_e {w : World} {b : Nat} {e : EvP} (h : Has w b (evC e)) : (loadVar 33 ⟨b, 0, none⟩).run Try.prog w = .ok (.agg (evC e)) w :=
  run_loadVar_at fun j hj => by
    obtain ⟨t, h⟩ := h
    rw [Nat.zero_add]
    exact cell_of_row w b j (evC e) t (0, 0) h
theorem ev_guardless : Try.prog.eqGuardType Try.prog.depth 33 = false := by kernel_rfl
theorem exec_eql_e {o : Oper} {ρ : Operand → Value} {ww : World} {u : TypeId} {x y : Operand} {p q : EvP} {v : Value} (ho : o.op = .binOp .eql 33 x y u) (hx : ρ x = .agg (evC p)) (hy : ρ y = .agg (evC q)) (h : (binOp .eql 33 (.agg (evC p)) (.agg (evC q))).run Try.prog ww = .ok v ww) : (execOp ρ o).run Try.prog ww = .ok (.value v) ww := by
  have hg := run_eqGuard_agg (P := Try.prog) (w := ww) .eql 33 x y (evC p) (evC q) ev_guardless
  unfold execOp
  simp only [ho, hx, hy]
  simp only [Sem.run_bind, hg, h, Result.andThen_ok, Sem.run_pure]
/-- What a law carries over its calls: its setup's block, another block, the events that came in, the setup. -/
structure Cx (W w : World) (s : SetP) (cs : Array Value) (g : Nat) (fx : Array Value) (A : Option Addr) (n c : Nat) (l : List EvP) : Prop where
  b : Below W.heap.size W w
  sc : Has w W.heap.size cs
  fc : Has w g fx
  ev : Evs w A n c l
  st : SetF w s cs
theorem Cx.below {W w w' : World} {s : SetP} {cs : Array Value} {g : Nat} {fx : Array Value} {A : Option Addr} {n c : Nat} {l : List EvP} (h : Cx W w s cs g fx A n c l) (hb : Below w.heap.size w w') : Cx W w' s cs g fx A n c l :=
  ⟨bel_on h.b hb, h.sc.below hb, h.fc.below hb, h.ev.below hb, h.st.below hb⟩
theorem Cx.drew {W w : World} {s : SetP} {cs : Array Value} {g : Nat} {fx : Array Value} {A : Option Addr} {n c : Nat} {l : List EvP} (h : Cx W w s cs g fx A n c l) : Cx W w.drew s cs g fx A n c l := h.below (below_drew (Below.refl _ _))
theorem Cx.alloc {W w : World} {s : SetP} {cs : Array Value} {g : Nat} {fx : Array Value} {A : Option Addr} {n c : Nat} {l : List EvP} (h : Cx W w s cs g fx A n c l) (o : Obj) : Cx W (w.alloc o) s cs g fx A n c l := h.below (bel_alloc (Below.refl _ _) o)
theorem cx_start {W : World} {s : SetP} {cs : Array Value} {fx : Array Value} {A : Option Addr} {n c : Nat} {l : List EvP} (h : Evs W A n c l) (hs : SetF W s cs) (t1 t2 : TypeId) : Cx W ((W.alloc (.cells cs t1)).alloc (.cells fx t2)) s cs (W.heap.size + 1) fx A n c l :=
  ⟨bel_alloc (bel_alloc (Below.refl _ _) _) _, (Has.new _ _ _ rfl).alloc _, Has.new _ _ _ (by simp), h.below (bel_alloc (bel_alloc (Below.refl _ _) _) _), hs.below (bel_alloc (bel_alloc (Below.refl _ _) _) _)⟩
theorem applyE_len (b : Bool) (l : List EvP) (k : Int) (x : EvP) : (applyE b l k x).1.length ≤ l.length + 1 := by
  unfold applyE
  split
  · split
    · cases ixE l x.id <;> simp [sortE_length]
    · simp
  · split
    · cases hx : ixE l x.id with
      | none => simp
      | some i =>
        have := rmE_length (ixE_some hx).1
        simp only [sortE_length]
        omega
    · split
      · split
        · cases hx : ixE l x.id with
          | none => simp
          | some i =>
            have := rmE_length (ixE_some hx).1
            simp only [sortE_length, List.length_append, List.length_singleton]
            omega
        · simp
      · simp
/-- May an event be in a setup? -/
def mayS (s : SetP) (x : EvP) : Bool := decide (x.May s.places s.elements.length s.classes.length s.gears.length s.rates.length)
theorem fixC_size (k : Int) (x : EvP) : (fixC k x).size = 12 := rfl
end Go.Proofs.Ytedkhjbnjkcemaa
