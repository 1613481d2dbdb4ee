/-
  The calls whose answers the document fixes, at the head of layer 12's laws.
  What layer 12's laws ask, said of segsOf and flagsOf. No program here.
  What layer 12's laws use besides: a setup with a unit of 1; one part more; lumperlaw12.near.
-/
import Derived.Test.YtbijaaglmhoopaaZbc
import Derived.Test.YtbijaaglmhoopaaZaz
import Derived.Test.YtbijaaglmhoopaaZaw
import Derived.Test.YtbijaaglmhoopaaZax
import Derived.Deep.DeepCutAuto
import Derived.Test.YtbijaaglmhoopaaZay
import Derived.Test.YtbijaaglmhoopaaZbb
namespace Go.Proofs.Ytbijaaglmhoopaa
open Go.RowKit
set_option linter.unusedVariables false
set_option linter.unusedSimpArgs false
set_option maxRecDepth 20000

def aw12P : SetP := ⟨1, [], 1, 1, [[1, 1, 1, 1]], [[1, 1]], [[1, 1]], 0, 900, 3600, 0, 0, 0, 0, 0, 0, 0, 0, [1], 0, 0, 0, []⟩
def aw12C (N : Nat) : Array Value := #[.int .i64 1, .slice none 0 0, .int .i64 1, .int .i64 1, .slice (some ⟨N + 1, 0, none⟩) 1 1, .slice (some ⟨N + 1 + 1, 0, none⟩) 1 1, .slice (some ⟨N + 1 + 1 + 1, 0, none⟩) 1 1, .int .i64 0, .int .i64 900, .int .i64 3600, .int .i64 0, .int .i64 0, .int .i64 0,
  .int .i64 0, .int .i64 0, .int .i64 0, .int .i64 0, .int .i64 0, .slice (some ⟨N + 1 + 1 + 1 + 1, 0, none⟩) 1 1, .int .i64 0, .int .i64 0, .int .i64 0, .slice none 0 0]
theorem aw12C_V (N : Nat) : setV aw12P none (some ⟨N + 1, 0, none⟩) (some ⟨N + 1 + 1, 0, none⟩) (some ⟨N + 1 + 1 + 1, 0, none⟩) (some ⟨N + 1 + 1 + 1 + 1, 0, none⟩) none 0 1 1 1 1 0 = .agg (aw12C N) := rfl
theorem aw12_fit : aw12P.Fit := by constructor <;> simp [aw12P, In64]
def aw12L : List EvP := [⟨2, 0, 1000, 3, 0, 0, 0, 0, 0, 0, 0⟩, ⟨1, 0, 400, 1, 0, 0, 0, 0, 0, 0, 0⟩, ⟨3, 0, 2000, 2, 0, 0, 0, 0, 0, 0, 0⟩, ⟨4, 0, 2001, 5, 0, 0, 0, 0, 0, 0, 0⟩, ⟨5, 0, 9000, 1, 0, 0, 0, 0, 0, 0, 0⟩]
def aw12E : Array Value := (ints .i64 (aw12L.map evLs).flatten).toArray
def aw12S : List SegP := [⟨0, 1000, 0, 1, 0⟩, ⟨1000, 1800, 1, 2, 0⟩, ⟨9000, 12600, 0, 5, 0⟩]
def aw12F : List FlagP := [⟨4, 3⟩, ⟨5, 1⟩]
theorem aw12_segs : segsOf aw12P 0 aw12L = aw12S := by decide +kernel
theorem aw12_flags : flagsOf aw12P 0 aw12L = aw12F := by decide +kernel
theorem aw12_segs1 : segsOf aw12P 1 aw12L = [] := by decide +kernel
theorem aw12_flags1 : flagsOf aw12P 1 aw12L = [] := by decide +kernel
theorem aw12_in : ∀ e ∈ aw12L, e.In := by
  intro e he
  simp only [aw12L, List.mem_cons, List.not_mem_nil, or_false] at he
  rcases he with rfl | rfl | rfl | rfl | rfl <;> constructor <;> simp
theorem aw12_only : clockP (aw12S.filter (ofKind 1)) = [(1000, 1800)] := by
  have e : aw12S.filter (ofKind 1) = [⟨1000, 1800, 1, 2, 0⟩] := by decide +kernel
  rw [e, ← clock_spans]
  exact canon_self (l := [(1000, 1800)]) (by simp [PlainFrom])
theorem aw12_clock : clockP aw12S = [(0, 1800), (9000, 12600)] := by
  rw [← clock_spans]
  refine (canon_congr fun t _ _ => ?_).trans (canon_self (l := [(0, 1800), (9000, 12600)]) (by simp [PlainFrom]))
  simp only [aw12S, List.map_cons, List.map_nil, spanOf, in_cons, in_nil, or_false]
  omega
theorem aw12_size : sz (In [(0, 1800), (9000, 12600)]) = 5400 := by
  rw [← szL_canon, canon_self (l := [(0, 1800), (9000, 12600)]) (by simp [PlainFrom])]
  rfl
theorem aw12_fits : ∀ x ∈ aw12S, Fit x.fr ∧ Fit x.to := by
  intro x hx
  simp only [aw12S, List.mem_cons, List.not_mem_nil, or_false] at hx
  rcases hx with rfl | rfl | rfl <;> exact ⟨⟨by simp, by simp⟩, ⟨by simp, by simp⟩⟩
theorem aw12_f1 : Fits [(1000, 1800)] := .of_plain (by simp [PlainFrom])
theorem aw12_f2 : Fits [(0, 1800), (9000, 12600)] := .of_plain (by simp [PlainFrom])
theorem aw12_ev {w : World} {g : Nat} (h : Has w g aw12E) : Evs w (some ⟨g, 0, none⟩) 5 5 aw12L := by
  refine ⟨⟨rfl, .inr ⟨_, rfl, fun j u hu => ?_⟩⟩, rfl⟩
  rw [tab_add, Nat.zero_add]
  exact h.cell j (by unfold aw12E; simpa using hu)
theorem tab_rows12 {w : World} {g k n : Nat} {t : Rows2} (h : Has w g (ints .i64 t.flatten).toArray) (hk : ∀ r ∈ t, r.length = k) (hn : t.length = n) (h6 : n ≤ 1000) (hz : ∀ r ∈ t, ∀ z ∈ r, In64 z) : Tab k w (some ⟨g, 0, none⟩) n n t := by
  refine ⟨⟨?_, .inr ⟨_, rfl, fun j u hu => ?_⟩⟩, hn, hk, hz, by omega, by omega⟩
  · rw [ints, List.length_map, rows_len t hk, hn, Nat.mul_comm]
  · rw [tab_add, Nat.zero_add]
    exact h.cell j (by simpa using hu)
set_option maxHeartbeats 8000000 in
theorem awake12 (w : World) : Calls Try.prog 9 #[] w fun e w' => e = .returned (.bool true) ∧ Below w.heap.size w w' := by
  have H1 := Lib.hid (setV_cells _ _ _ _ _ _ _ _ _ _ _ _ _ _ (aw12C_V w.heap.size))
  have HZ := Lib.hid H1.out.1
  go_enter Try.func9, Try.ntmps9
  go_upto_region 2 with fail
  go_cut [2] (fun v2 wx => ∃ g : Nat, v2 = .pointer (some ⟨g, 0, none⟩) ∧ Hid (Has wx g (aw12C w.heap.size)) ∧ Hid (SetW wx aw12P (aw12C w.heap.size)) ∧ Hid (Below w.heap.size w wx))
  case first =>
    go_wp2_with (first | refine wpList_laidS (aw12C w.heap.size) 2 _ _ rfl rfl rfl rfl rfl rfl rfl rfl H1.out.1 H1.out.2 ?_)
    go_meet
    refine ⟨_, rfl, ?_, ?_, ?_⟩
    · exact Has.new _ _ _ rfl
    · refine Lib.hid (setW_of (aw12C_V w.heap.size) ⟨Tab.nil_, tab_rows12 (t := [[1, 1, 1, 1]]) ?_ (by simp) rfl (by decide) (by simp [In64]), tab_rows12 (t := [[1, 1]]) ?_ (by simp) rfl (by decide) (by simp [In64]),
        tab_rows12 (t := [[1, 1]]) ?_ (by simp) rfl (by decide) (by simp [In64]), tab_rows12 (t := [[1]]) ?_ (by simp) rfl (by decide) (by simp [In64]), Tab.nil_⟩ aw12_fit)
      · exact ((((Has.new _ _ _ (by simp)).alloc _).alloc _).alloc _).alloc _
      · exact (((Has.new _ _ _ (by simp)).alloc _).alloc _).alloc _
      · exact ((Has.new _ _ _ (by simp)).alloc _).alloc _
      · exact (Has.new _ _ _ (by simp)).alloc _
    · show Below _ _ _
      (repeat' (first | with_reducible exact Below.refl _ _ | with_reducible assumption | with_reducible refine bel_alloc ?_ _ | with_reducible refine bel_set ?_ ?_ _ | with_reducible refine below_drewN ?_ _ | with_reducible refine below_drew ?_ | (simp; done) | (simp; omega) | omega))
  case rest =>
    obtain ⟨g, rfl, HB, HS, HBW⟩ := hcut
    clear H1
    generalize aw12C w.heap.size = cs at *
    go_upto_region 3 with fail
    go_cut [3] (fun v3 wx => ∃ g3 : Nat, v3 = .slice (some ⟨g3, 0, none⟩) 5 5 ∧ Hid (Has wx g3 aw12E) ∧ Hid (Has wx g cs) ∧ Hid (SetW wx aw12P cs) ∧ Hid (Below w.heap.size w wx))
    case first =>
      go_wp2_with fail
      go_meet
      refine ⟨_, rfl, ?_, ?_, ?_, ?_⟩
      · exact Has.new _ _ _ rfl
      · exact HB.out.alloc _
      · exact Lib.hid (HS.out.below (bel_alloc (Below.refl _ _) _))
      · exact bel_alloc HBW.out _
    case rest =>
      clear HB HS HBW
      obtain ⟨g3, rfl, HE, HB, HS, HBW⟩ := hcut
      have HEV := Lib.hid (aw12_ev HE.out)
      clear HE
      go_wp2_with (refine wpList_exec (o := ⟨some 28, _, _, _, _, _⟩) (by rfl) (exec_load_st _ rfl rfl HB.out HZ.out) ?_)
      refine (stream_any aw12P cs _ HS.out _ 5 5 aw12L HEV.out (by decide) aw12_in 0).mono ?_
      intro e w1 hg
      obtain ⟨A1, c1, B1, d1, rfl, hs1, hf1, hb1⟩ := hg.two
      rw [aw12_segs] at hs1 ⊢
      rw [aw12_flags] at hf1 ⊢
      have HB1 := Lib.hid (HB.out.below hb1)
      have HS1 := Lib.hid (HS.out.below hb1)
      have HE1 := Lib.hid (HEV.out.below hb1)
      have HW1 := Lib.hid (bel_on HBW.out hb1)
      have HSG := Lib.hid hs1
      have HFG := Lib.hid hf1
      have e3 : aw12S.length = 3 := rfl
      have e2 : aw12F.length = 2 := rfl
      rw [e3] at HSG ⊢
      rw [e2] at HFG ⊢
      clear hg hs1 hf1 hb1 HB HS HEV HBW e3 e2
      go_wp2_with (refine wpList_exec (o := ⟨some 34, _, _, _, _, _⟩) (by rfl) (exec_load_st _ rfl rfl HB1.out HZ.out) ?_)
      refine (stream_any aw12P cs _ HS1.out _ 5 5 aw12L HE1.out (by decide) aw12_in 1).mono ?_
      intro e w2 hg
      obtain ⟨A2, c2, B2, d2, rfl, hs2, hf2, hb2⟩ := hg.two
      rw [aw12_segs1] at hs2 ⊢
      rw [aw12_flags1] at hf2 ⊢
      have HS2 := Lib.hid (HSG.out.below hb2)
      have HF2 := Lib.hid (HFG.out.below hb2)
      have HW2 := Lib.hid (bel_on HW1.out hb2)
      have e0 : ([] : List SegP).length = 0 := rfl
      have e1 : ([] : List FlagP).length = 0 := rfl
      rw [e0, e1]
      clear hg hs2 hf2 hb2 HB1 HS1 HE1 HW1 HSG HFG HZ e0 e1
      obtain ⟨b, off, rfl⟩ := HS2.out.form (by decide)
      obtain ⟨bf, of, rfl⟩ := Flgs.form HF2.out (by decide)
      obtain ⟨x0, x1, x2, x3, x4⟩ := segs_num HS2.out (i := 0) (by decide) ⟨0, 1000, 0, 1, 0⟩ rfl
      obtain ⟨y0, y1, y2, y3, y4⟩ := segs_num HS2.out (i := 1) (by decide) ⟨1000, 1800, 1, 2, 0⟩ rfl
      obtain ⟨z0, z1, z2, z3, z4⟩ := segs_num HS2.out (i := 2) (by decide) ⟨9000, 12600, 0, 5, 0⟩ rfl
      obtain ⟨u0, u1⟩ := flgs_num HF2.out (i := 0) (by decide) ⟨4, 3⟩ rfl
      obtain ⟨v0, v1⟩ := flgs_num HF2.out (i := 1) (by decide) ⟨5, 1⟩ rfl
      have zb := cell_lt x0
      have zf := cell_lt u0
      simp at x0 x1 x2 x3 x4 y0 y1 y2 y3 y4 z0 z1 z2 z3 z4 u0 u1 v0 v1 zb zf
      have HW2b := HW2
      go_wp2_with fail
      refine (sonly_any (some ⟨b, off, none⟩) 3 c1 aw12S 1 _ HS2.out (by decide) aw12_fits).mono ?_
      rw [aw12_only]
      rintro e w3 ⟨D3, d3, rfl, r3, b3⟩
      have HX3 := Lib.hid (r3.spans aw12_f1)
      have HS3 := Lib.hid (HS2.out.below b3)
      have HW3 := Lib.hid (bel_on HW2.out b3)
      have hb4 : Below w3.heap.size w3 (w3.alloc (.cells #[.int .i64 1000, .int .i64 1800] 61)) := bel_alloc (Below.refl _ _) _
      have HL4 := Lib.hid (spans_new w3 [(1000, 1800)] 61 #[.int .i64 1000, .int .i64 1800] rfl aw12_f1 rfl)
      have HX4 := Lib.hid (HX3.out.below hb4)
      have HS4 := Lib.hid (HS3.out.below hb4)
      have HW4 := Lib.hid (bel_on HW3.out hb4)
      clear r3 b3 hb4 HX3 HS3 HW3 HS2 HW2 HW2b x0 x1 x2 x3 x4 y0 y1 y2 y3 y4 z0 z1 z2 z3 z4 u0 u1 v0 v1 zb zf HF2
      go_wp2_with fail
      refine (same_any _ _ _ _ [(1000, 1800)] _ HX4.out HL4.out (by simp)).mono ?_
      rintro e w5 ⟨rfl, b5⟩
      have HS5 := Lib.hid (HS4.out.below b5)
      have HW5 := Lib.hid (bel_on HW4.out b5)
      clear b5 HX4 HL4 HS4 HW4
      go_wp2_with fail
      refine (sclock_any (some ⟨b, off, none⟩) 3 c1 aw12S _ HS5.out (by decide) aw12_fits).mono ?_
      rw [aw12_clock]
      rintro e w6 ⟨D6, d6, rfl, r6, b6⟩
      have HX6 := Lib.hid (r6.spans aw12_f2)
      have HW6 := Lib.hid (bel_on HW5.out b6)
      clear r6 b6 HS5 HW5
      go_wp2_with fail
      refine (size_any _ _ [(0, 1800), (9000, 12600)] _ HX6.out (by simp)).mono ?_
      rw [aw12_size]
      rintro e w7 ⟨rfl, b7⟩
      have HW7 := Lib.hid (bel_on HW6.out b7)
      clear b7 HX6 HW6
      go_wp2
      go_ret
      exact ⟨rfl, HW7.out⟩
end Go.Proofs.Ytbijaaglmhoopaa

namespace Go.Proofs.Ytbijaaglmhoopaa
set_option linter.unusedVariables false
set_option linter.unusedSimpArgs false

theorem strip_same {cap : Int} {L : List EvP} (h : L.Pairwise (fun a b => a.tm ≤ b.tm)) : (itemsS cap none (L.filter isPunch)).flatMap stripI = (itemsS cap none L).flatMap stripI := strip_items L none h
theorem itemsOf_punch (s : SetP) (wk : Int) (l : List EvP) : itemsOf s wk (l.filter isPunch) = itemsS s.cap none ((wevs (mayE s.places s.elements.length s.classes.length s.gears.length s.rates.length) wk l).filter isPunch) := by
  unfold itemsOf
  rw [wevs_punch]
/-- The seconds between matched punches are those of all parts. -/
theorem clock_punch (s : SetP) (wk : Int) (l : List EvP) : clockP (segsOf s wk (l.filter isPunch)) = clockP (segsOf s wk l) := by
  by_cases h : checkB s = true
  · have hM := check_iff.1 h
    have hu := hM.unit
    have hR := roundP_mono hu.1 (by omega)
    have e1 : segsOf s wk (l.filter isPunch) = segsS (fun t => roundP t s.unit) (itemsOf s wk (l.filter isPunch)) := by unfold segsOf; rw [if_pos h]
    have e2 : segsOf s wk l = segsS (fun t => roundP t s.unit) (itemsOf s wk l) := by unfold segsOf; rw [if_pos h]
    unfold clockP
    refine canon_congr fun t _ _ => ?_
    rw [e1, e2, segs_in hR t _ 0 (itemsOf_up hM wk _), segs_in hR t _ 0 (itemsOf_up hM wk l)]
    have e3 : (itemsOf s wk (l.filter isPunch)).flatMap stripI = (itemsOf s wk l).flatMap stripI := by
      rw [itemsOf_punch]
      exact strip_same (risen_times (wevs_risen _ _ _))
    rw [e3]
  · unfold segsOf
    rw [if_neg h, if_neg h]
/-- Of punches alone a session has one part at most, without work. -/
theorem punch_seg (s : SetP) (wk : Int) (l : List EvP) : ∀ x ∈ segsOf s wk (l.filter isPunch), x.kd = 0 ∧ x.to - x.fr ≤ s.cap + s.unit := by
  intro x hx
  unfold segsOf at hx
  split at hx
  · next h =>
    have hM := check_iff.1 h
    have hu := hM.unit
    have hc := hM.cap
    have hup := itemsOf_up hM wk (l.filter isPunch)
    have hone := punch_items (cap := s.cap) ((wevs (mayE s.places s.elements.length s.classes.length s.gears.length s.rates.length) wk l).filter isPunch) none (fun b hb => (List.mem_filter.1 hb).2) rfl
    rw [← itemsOf_punch] at hone
    have hlast : ∀ y ∈ itemsOf s wk (l.filter isPunch), (headI y).tm ≤ 31449599 := by
      intro y hy
      have h1 := (heads_sub (cap := s.cap) (wevs (mayE s.places s.elements.length s.classes.length s.gears.length s.rates.length) wk (l.filter isPunch))).1
      have h2 : headI y ∈ headsS (itemsOf s wk (l.filter isPunch)) := List.mem_map.2 ⟨y, hy, rfl⟩
      exact (wevs_ok _ (h1.subset h2)).2.2.2.2
    have key : ∀ (L : List ItemP) (lo : Int), 0 ≤ lo → ItemsUp s.cap lo L → (∀ y ∈ L, ∀ e ins tz fl, y = .sess e ins tz fl → ins = []) → (∀ y ∈ L, (headI y).tm ≤ 31449599) → ∀ x ∈ segsS (fun t => roundP t s.unit) L, x.kd = 0 ∧ x.to - x.fr ≤ s.cap + s.unit := by
      intro L
      induction L with
      | nil => intro lo _ _ _ _ x hx; cases hx
      | cons y L ih =>
        intro lo hlo h1 h2 h3 x hx
        rw [segsS_cons] at hx
        rcases List.mem_append.1 hx with hx1 | hx2
        · match y, h1, hx1 with
          | .out e, _, hx => cases hx
          | .sess e ins tz fl, ⟨⟨a1, a2, a3⟩, a4, _⟩, hx =>
            have hi := h2 _ (by simp) e ins tz fl rfl
            subst hi
            have hx' : x ∈ segI (roundP e.tm s.unit) (roundP tz s.unit) e := hx
            obtain ⟨rfl, q⟩ := segI_mem hx'
            have ht := h3 (.sess e [] tz fl) (by simp)
            have n1 := roundP_near (t := e.tm) (u := s.unit) (by omega) (by simp only [headI] at ht; omega) hu.1 (by omega)
            have n2 := roundP_near (t := tz) (u := s.unit) (by omega) (by simp only [headI] at ht; omega) hu.1 (by omega)
            refine ⟨by simp [kindP, a4], ?_⟩
            simp only
            omega
        · match y, h1 with
          | .out e, h1 => exact ih lo hlo h1.2 (fun y hy => h2 y (by simp [hy])) (fun y hy => h3 y (by simp [hy])) x hx2
          | .sess e ins tz fl, ⟨⟨a1, a2, a3⟩, _, _, _, _, h7⟩ => exact ih tz (by omega) h7 (fun y hy => h2 y (by simp [hy])) (fun y hy => h3 y (by simp [hy])) x hx2
    exact key _ 0 (Int.le_refl _) hup hone hlast x hx
  · cases hx
/-! ### The order of events -/
theorem turn_list (l : List EvP) (n f : Nat) (hl : l.length = n) (hn : 0 < n) : (List.range n).map (fun i => l.getD ((i + f) % n) EvP.none) = l.drop (f % n) ++ l.take (f % n) := by
  have hr : f % n < n := Nat.mod_lt _ hn
  apply List.ext_getElem
  · simp [hl]
    omega
  · intro i h1 h2
    have hi : i < n := by simpa using h1
    rw [List.getElem_map, List.getElem_range]
    have e : (i + f) % n = (i + f % n) % n := by rw [Nat.add_mod, Nat.mod_eq_of_lt hi]
    rw [e]
    by_cases q : i + f % n < n
    · rw [List.getElem_append_left (by simp [hl]; omega), List.getElem_drop, Nat.mod_eq_of_lt q]
      simp [List.getD, hl, q, Nat.add_comm]
    · rw [List.getElem_append_right (by simp [hl]; omega), List.getElem_take]
      have e2 : (i + f % n) % n = i + f % n - n := by
        rw [Nat.mod_eq_sub_mod (by omega), Nat.mod_eq_of_lt (by omega)]
      rw [e2]
      have h3 : i + f % n - n < l.length := by omega
      rw [List.getD_eq_getElem?_getD, List.getElem?_eq_getElem h3, Option.getD_some]
      congr 1
      simp [hl]
      omega
theorem turn_perm (l : List EvP) (n f : Nat) (hl : l.length = n) : ((List.range n).map (fun i => l.getD ((i + f) % n) EvP.none)).Perm l := by
  rcases Nat.eq_zero_or_pos n with h | h
  · subst h
    rw [List.eq_nil_of_length_eq_zero hl]
    exact List.Perm.refl _
  · rw [turn_list l n f hl h]
    exact List.perm_append_comm.trans (by rw [List.take_append_drop])
def alone (wk : Int) (e : EvP) : Bool := decide (e.wk = wk) && decide (e.kd ≠ 7)
theorem alone_same (s : SetP) (wk : Int) (l : List EvP) (n f : Nat) (hl : l.length = n) (hd : ∀ a b, a < n → b < a → (l.getD b EvP.none).id ≠ (l.getD a EvP.none).id) :
    segsOf s wk l = segsOf s wk (((List.range n).map (fun i => l.getD ((i + f) % n) EvP.none)).filter (alone wk)) ∧ flagsOf s wk l = flagsOf s wk (((List.range n).map (fun i => l.getD ((i + f) % n) EvP.none)).filter (alone wk)) := by
  have hids : ∀ x ∈ l, ∀ y ∈ l, x.id = y.id → x = y := by
    intro x hx y hy hxy
    obtain ⟨i, hi, rfl⟩ := List.mem_iff_getElem.1 hx
    obtain ⟨j, hj, rfl⟩ := List.mem_iff_getElem.1 hy
    have g : ∀ i (hi : i < l.length), l.getD i EvP.none = l[i] := fun i hi => by simp [List.getD, hi]
    rcases Nat.lt_trichotomy i j with q | q | q
    · have := hd j i (by omega) q
      rw [g i hi, g j hj] at this
      exact absurd hxy this
    · subst q; rfl
    · have := hd i j (by omega) q
      rw [g i hi, g j hj] at this
      exact absurd hxy.symm this
  have e := wevs_alone (mayE s.places s.elements.length s.classes.length s.gears.length s.rates.length) wk (l := l) (m := ((List.range n).map (fun i => l.getD ((i + f) % n) EvP.none)).filter (alone wk)) ((turn_perm l n f hl).filter _) hids
  unfold segsOf flagsOf itemsOf
  rw [e]
  exact ⟨rfl, rfl⟩
theorem take_snoc_sg {l : List SegP} {i : Nat} (h : i < l.length) : l.take (i + 1) = l.take i ++ [l.getD i SegP.none] := by
  rw [List.take_succ_eq_append_getElem h]
  simp [List.getD, h]
theorem nearP_len (lo hi : Int) : ∀ (l : List SegP), (nearP lo hi l).length ≤ 2 * l.length
  | [] => by simp [nearP]
  | s :: l => by
    have ih := nearP_len lo hi l
    have e : nearP lo hi (s :: l) = ((if s.fr < lo then [(⟨s.fr, min s.to lo, s.kd, s.id, s.cd⟩ : SegP)] else []) ++ (if hi < s.to then [(⟨max s.fr hi, s.to, s.kd, s.id, s.cd⟩ : SegP)] else [])) ++ nearP lo hi l := by simp [nearP]
    rw [e, List.length_append, List.length_append, List.length_cons]
    split <;> split <;> simp <;> omega
theorem nearP_snoc (lo hi : Int) (l : List SegP) (x : SegP) : nearP lo hi (l ++ [x]) = nearP lo hi l ++ ((if x.fr < lo then [(⟨x.fr, min x.to lo, x.kd, x.id, x.cd⟩ : SegP)] else []) ++ (if hi < x.to then [(⟨max x.fr hi, x.to, x.kd, x.id, x.cd⟩ : SegP)] else [])) := by
  rw [nearP_append]
  simp [nearP]
/-! ### Rounding -/
theorem may1 {s : SetP} (h : s.May) : ({ s with unit := 1 } : SetP).May := by
  obtain ⟨h0, h1, h2, h3, h4, h5, h6, h7, h8, h9, h10, h11, h12, h13, h14, h15, h16, h17, h18, h19, h20⟩ := h
  constructor <;> first | assumption | (simp)
theorem rounds_same {s : SetP} (hM : s.May) (wk : Int) (l : List EvP) :
    segsOf s wk (l.filter isPunch) = (segsOf { s with unit := 1 } wk (l.filter isPunch)).flatMap (reR fun t => roundP t s.unit) := by
  have hu := hM.unit
  have hc := hM.cap
  have e1 : segsOf s wk (l.filter isPunch) = segsS (fun t => roundP t s.unit) (itemsOf s wk (l.filter isPunch)) := by unfold segsOf; rw [if_pos (check_iff.2 hM)]
  have e2 : segsOf { s with unit := 1 } wk (l.filter isPunch) = segsS (fun t => roundP t 1) (itemsOf s wk (l.filter isPunch)) := by unfold segsOf; rw [if_pos (check_iff.2 (may1 hM))]; rfl
  have hone := punch_items (cap := s.cap) ((wevs (mayE s.places s.elements.length s.classes.length s.gears.length s.rates.length) wk l).filter isPunch) none (fun b hb => (List.mem_filter.1 hb).2) rfl
  rw [← itemsOf_punch] at hone
  rw [e1, e2]
  refine stream_rounds (cap := s.cap) (by omega) hu.1 hu.2 _ 0 (Int.le_refl _) (itemsOf_up hM wk _) (fun y hy => ?_) hone
  have h1 := (heads_sub (cap := s.cap) (wevs (mayE s.places s.elements.length s.classes.length s.gears.length s.rates.length) wk (l.filter isPunch))).1
  have h2 : headI y ∈ headsS (itemsOf s wk (l.filter isPunch)) := List.mem_map.2 ⟨y, hy, rfl⟩
  exact (wevs_ok _ (h1.subset h2)).2.2.2.2
/-! ### Near -/
theorem near_more {s : SetP} (hM : s.May) (wk : Int) (l : List EvP) (e : EvP) (he : 0 ≤ e.tm ∧ e.tm ≤ 31449599) :
    nearP (e.tm - (s.cap + s.unit)) (e.tm + (s.cap + s.unit)) (segsOf s wk l) = nearP (e.tm - (s.cap + s.unit)) (e.tm + (s.cap + s.unit)) (segsOf s wk (l ++ [e])) := by
  have hu := hM.unit
  have hc := hM.cap
  have e1 : ∀ m, segsOf s wk m = segsS (fun t => roundP t s.unit) (itemsOf s wk m) := fun m => by unfold segsOf; rw [if_pos (check_iff.2 hM)]
  rw [e1, e1]
  unfold itemsOf
  rcases wevs_more (mayE s.places s.elements.length s.classes.length s.gears.length s.rates.length) wk l e with h | ⟨X, Y, h1, h2, h3, h4⟩
  · rw [h]
  · rw [h1, h2]
    refine stream_near (by omega) (by omega) hu.1 hu.2 X Y e (fun a ha => ⟨?_, h3 a ha⟩) h4 he
    have : a ∈ wevs (mayE s.places s.elements.length s.classes.length s.gears.length s.rates.length) wk l := by rw [h1]; simp [ha]
    exact (wevs_ok a this).2.2.2.1
end Go.Proofs.Ytbijaaglmhoopaa

namespace Go.Proofs.Ytbijaaglmhoopaa
open Go.RowKit
set_option linter.unusedVariables false
set_option linter.unusedSimpArgs false
set_option maxRecDepth 20000

theorem unit1 {w : World} {s : SetP} {cs : Array Value} (h : SetW w s cs) : SetW w { s with unit := 1 } (cs.setIfInBounds 8 (.int .i64 1)) := by
  obtain ⟨A1, A2, A3, A4, A5, A6, c1, c2, c3, c4, c5, c6, h1, h2⟩ := h.c
  obtain ⟨f0, f1, f2, f3, f4, f5, f6, f7, f8, f9, f10, f11, f12, f13, f14, f15, f16⟩ := h.f
  refine setW_of (A1 := A1) (A2 := A2) (A3 := A3) (A4 := A4) (A5 := A5) (A6 := A6) (c1 := c1) (c2 := c2) (c3 := c3) (c4 := c4) (c5 := c5) (c6 := c6) ?_ ⟨h2.ways, h2.elements, h2.classes, h2.gears, h2.rates, h2.tiers⟩ ?_
  · unfold setV at h1 ⊢
    injection h1 with h1
    subst h1
    simp
  · constructor <;> first | assumption | (simp [In64])
theorem srow_more {w : World} {base n c : Nat} {A : Option Addr} {l : List SegP} (h : SRow w base A n c l) (x : SegP) (hm : n ≤ 1000) (hbase : base ≤ w.heap.size) {s : Nat} (hs : w.heap.size = s) :
    ∃ A' c' w', (Builtin.append_ #[34, 34] 34 #[.slice A n c, .slice (some ⟨s, 0, none⟩) 1 1]).run Try.prog (w.alloc (.cells #[.int .i64 x.fr, .int .i64 x.to, .int .i64 x.kd, .int .i64 x.id, .int .i64 x.cd] 41)) = .ok (.slice A' (n + 1) c') w' ∧ SRow w' base A' (n + 1) c' (l ++ [x]) ∧ Kept (fun b => b < base) w w' := by
  obtain ⟨A', c', w', h1, h2, h3, -, -⟩ := trow_one (t := 34) (e := 41) (k := 5) (by_ := 40) (z := .agg #[.int .i64 0, .int .i64 0, .int .i64 0, .int .i64 0, .int .i64 0]) Try.underlying34 seg_info rfl (by omega) (by omega) h (segL x) rfl hm hbase hs
  have e0 : (ints .i64 (segL x)).toArray = #[.int .i64 x.fr, .int .i64 x.to, .int .i64 x.kd, .int .i64 x.id, .int .i64 x.cd] := rfl
  rw [e0] at h1
  refine ⟨A', c', w', h1, ?_, h3⟩
  have e : (l ++ [x]).map segL = l.map segL ++ [segL x] := by simp
  show TRow _ _ _ _ _ _ _ ((l ++ [x]).map segL)
  rw [e]
  exact h2
theorem bel_kept {w0 w w' : World} (h : Below w0.heap.size w0 w) (k : Kept (fun b => b < w0.heap.size) w w') : Below w0.heap.size w0 w' := below_kept0 h k
theorem wpList_max2s {P : Program} {ops : Array Oper} {rest : List Oper} {o : Oper} {a : Act} {w : World} {Q : Exit → Act → World → Prop} {x y : Operand} {ts : Array TypeId} (p q n : Int) (hn : max p q = n) (hgd : o.guard = none)
    (ho : o.op = .call { callee := .builtin .max, args := #[x, y], argTypes := ts }) (h1 : a.eval x = .int .i64 p) (h2 : a.eval y = .int .i64 q)
    (h : wpList P ops Q rest (a.put o.dst (.int .i64 n)) w) : wpList P ops Q (o :: rest) a w := by
  refine wpList_plain hgd fun K hK => ?_
  have e : (if q > p then q else p) = n := by
    subst hn
    split <;> omega
  unfold Oper.wp execOp
  simp only [ho, resolve, invoke, builtin, Sem.run_bind, Sem.run_pure, Result.andThen_ok, List.map_toArray, List.map_cons, List.map_nil, h1, h2, run_max_int2, e]
  exact hK _ _ h
def GivesS (w : World) (S : List SegP) (e : Ending) (w' : World) : Prop := ∃ A c, e = .returned (.slice A S.length c) ∧ Segs w' A S.length c S ∧ Below w.heap.size w w'
set_option maxHeartbeats 16000000 in
theorem near_any (A : Option Addr) (n c : Nat) (l : List SegP) (t by_ lo hi : Int) (w : World) (h : Segs w A n c l) (hn : n ≤ 400) (h1 : t - by_ = lo) (h2 : t + by_ = hi) (b1 : -1000000000 ≤ lo ∧ lo ≤ 1000000000) (b2 : -1000000000 ≤ hi ∧ hi ≤ 1000000000) :
    Calls Try.prog 20 #[.slice A n c, .int .i64 t, .int .i64 by_] w (GivesS w (nearP lo hi l)) := by
  have hlen := h.2
  have HL := Lib.hid h
  have w1 : IntKind.i64.wrap (t - by_) = lo := by rw [h1]; exact wrapw_id (by omega) (by omega)
  have w2 : IntKind.i64.wrap (t + by_) = hi := by rw [h2]; exact wrapw_id (by omega) (by omega)
  clear h h1 h2
  go_enter Try.func20, Try.ntmps20
  go_wp2
  go_loopg [7, 8] n (fun kx s7 s8 wr => ∃ (k q d : Nat) (B : Option Addr), s7 = .slice B q d ∧ s8 = .int .i64 k ∧ k + kx = n ∧ q ≤ 2 * k ∧ Hid (SRow wr w.heap.size B q d (nearP lo hi (l.take k))) ∧ Hid (Below w.heap.size w wr))
  case atStart => exact ⟨0, 0, 0, none, rfl, rfl, by omega, by omega, Lib.hid (by rw [List.take_zero]; exact TRow.nil _ _), Lib.hid (Below.refl _ _)⟩
  case round =>
    obtain ⟨k, q, d, B, rfl, rfl, hk, hqk, HR, HW⟩ := hrel
    by_cases hlt : k < n
    · have HLr := Lib.hid (HL.out.below HW.out)
      obtain ⟨ba, oa, rfl⟩ := HLr.out.form (by omega)
      obtain ⟨x, hx⟩ : ∃ x, l.getD k SegP.none = x := ⟨_, rfl⟩
      obtain ⟨y0, y1, y2, y3, y4⟩ := segs_num HLr.out hlt x hx
      have yl := cell_lt y0
      have HX := Lib.hid hx
      have HTK : Hid (l.take (k + 1) = l.take k ++ [x]) := by show _ = _; rw [← hx]; exact take_snoc_sg (by omega)
      have i0 : (0 : Int) ≤ (k : Int) := by omega
      have i1 : (k : Int) < (n : Int) := by omega
      obtain ⟨m1, hm1⟩ : ∃ m1, min x.to lo = m1 := ⟨_, rfl⟩
      obtain ⟨m2, hm2⟩ : ∃ m2, max x.fr hi = m2 := ⟨_, rfl⟩
      have HM1 := Lib.hid hm1
      have HM2 := Lib.hid hm2
      clear hx hm1 hm2 HLr
      by_cases g1 : x.fr < lo
      · by_cases g2 : hi < x.to
        · skip
          obtain ⟨A8, c8, w8, hr8, row8, kp8⟩ := srow_more (HR.out.alloc (.cells #[.int .i64 x.fr, .int .i64 m1, .int .i64 x.kd, .int .i64 x.id, .int .i64 x.cd] 41)) ⟨x.fr, m1, x.kd, x.id, x.cd⟩ (by omega) (bel_alloc HW.out _).size (s := wr.heap.size + 1) (by simp)
          have HR8 := Lib.hid hr8
          have HRW8 := Lib.hid row8
          have HW8 := Lib.hid (bel_kept (bel_alloc HW.out (.cells #[.int .i64 x.fr, .int .i64 m1, .int .i64 x.kd, .int .i64 x.id, .int .i64 x.cd] 41)) kp8)
          clear hr8 row8 kp8
          have HL6 := Lib.hid (HL.out.below HW8.out)
          obtain ⟨z0, z1, z2, z3, z4⟩ := segs_num HL6.out hlt x HX.out
          have zl := cell_lt z0
          clear HL6
          obtain ⟨A9, c9, w9, hr9, row9, kp9⟩ := srow_more (HRW8.out.alloc (.cells #[.int .i64 m2, .int .i64 x.to, .int .i64 x.kd, .int .i64 x.id, .int .i64 x.cd] 41)) ⟨m2, x.to, x.kd, x.id, x.cd⟩ (by omega) (bel_alloc HW8.out _).size (s := w8.heap.size + 1) (by simp)
          have HR9 := Lib.hid hr9
          have HRW9 := Lib.hid row9
          have HW9 := Lib.hid (bel_kept (bel_alloc HW8.out (.cells #[.int .i64 m2, .int .i64 x.to, .int .i64 x.kd, .int .i64 x.id, .int .i64 x.cd] 41)) kp9)
          clear hr9 row9 kp9
          have HEE : Hid (nearP lo hi (l.take (k + 1)) = (nearP lo hi (l.take k) ++ [⟨x.fr, m1, x.kd, x.id, x.cd⟩]) ++ [⟨m2, x.to, x.kd, x.id, x.cd⟩]) := by
            show _ = _
            rw [HTK.out, nearP_snoc, if_pos g1, if_pos g2, HM1.out, HM2.out]
            simp
          go_wp2_with (first | refine wpList_min2s (o := ⟨some 35, _, _, _, _, _⟩) x.to lo m1 HM1.out rfl rfl rfl rfl ?_ | (at_builtin; refine wpList_append_run (o := ⟨some 40, _, _, _, _, _⟩) HR8.out rfl rfl rfl rfl ?_) | refine wpList_max2s (o := ⟨some 59, _, _, _, _, _⟩) x.fr hi m2 HM2.out rfl rfl rfl rfl ?_ | (at_builtin; refine wpList_append_run (o := ⟨some 64, _, _, _, _, _⟩) HR9.out rfl rfl rfl rfl ?_))
          go_roundg (n - (k + 1))
          case measure => omega
          case rel => exact ⟨k + 1, q + 1 + 1, c9, A9, rfl, by go_num, by omega, by omega, Lib.hid (by rw [HEE.out]; exact HRW9.out), HW9⟩
        · skip
          obtain ⟨A8, c8, w8, hr8, row8, kp8⟩ := srow_more (HR.out.alloc (.cells #[.int .i64 x.fr, .int .i64 m1, .int .i64 x.kd, .int .i64 x.id, .int .i64 x.cd] 41)) ⟨x.fr, m1, x.kd, x.id, x.cd⟩ (by omega) (bel_alloc HW.out _).size (s := wr.heap.size + 1) (by simp)
          have HR8 := Lib.hid hr8
          have HRW8 := Lib.hid row8
          have HW8 := Lib.hid (bel_kept (bel_alloc HW.out (.cells #[.int .i64 x.fr, .int .i64 m1, .int .i64 x.kd, .int .i64 x.id, .int .i64 x.cd] 41)) kp8)
          clear hr8 row8 kp8
          have HL6 := Lib.hid (HL.out.below HW8.out)
          obtain ⟨z0, z1, z2, z3, z4⟩ := segs_num HL6.out hlt x HX.out
          have zl := cell_lt z0
          clear HL6
          have HEE : Hid (nearP lo hi (l.take (k + 1)) = nearP lo hi (l.take k) ++ [⟨x.fr, m1, x.kd, x.id, x.cd⟩]) := by
            show _ = _
            rw [HTK.out, nearP_snoc, if_pos g1, if_neg g2, HM1.out]
            simp
          go_wp2_with (first | refine wpList_min2s (o := ⟨some 35, _, _, _, _, _⟩) x.to lo m1 HM1.out rfl rfl rfl rfl ?_ | (at_builtin; refine wpList_append_run (o := ⟨some 40, _, _, _, _, _⟩) HR8.out rfl rfl rfl rfl ?_))
          go_roundg (n - (k + 1))
          case measure => omega
          case rel => exact ⟨k + 1, q + 1, c8, A8, rfl, by go_num, by omega, by omega, Lib.hid (by rw [HEE.out]; exact HRW8.out), HW8⟩
      · by_cases g2 : hi < x.to
        · skip
          obtain ⟨A9, c9, w9, hr9, row9, kp9⟩ := srow_more (HR.out.alloc (.cells #[.int .i64 m2, .int .i64 x.to, .int .i64 x.kd, .int .i64 x.id, .int .i64 x.cd] 41)) ⟨m2, x.to, x.kd, x.id, x.cd⟩ (by omega) (bel_alloc HW.out _).size (s := wr.heap.size + 1) (by simp)
          have HR9 := Lib.hid hr9
          have HRW9 := Lib.hid row9
          have HW9 := Lib.hid (bel_kept (bel_alloc HW.out (.cells #[.int .i64 m2, .int .i64 x.to, .int .i64 x.kd, .int .i64 x.id, .int .i64 x.cd] 41)) kp9)
          clear hr9 row9 kp9
          have HEE : Hid (nearP lo hi (l.take (k + 1)) = (nearP lo hi (l.take k)) ++ [⟨m2, x.to, x.kd, x.id, x.cd⟩]) := by
            show _ = _
            rw [HTK.out, nearP_snoc, if_neg g1, if_pos g2, HM2.out]
            simp
          go_wp2_with (first | refine wpList_max2s (o := ⟨some 59, _, _, _, _, _⟩) x.fr hi m2 HM2.out rfl rfl rfl rfl ?_ | (at_builtin; refine wpList_append_run (o := ⟨some 64, _, _, _, _, _⟩) HR9.out rfl rfl rfl rfl ?_))
          go_roundg (n - (k + 1))
          case measure => omega
          case rel => exact ⟨k + 1, q + 1, c9, A9, rfl, by go_num, by omega, by omega, Lib.hid (by rw [HEE.out]; exact HRW9.out), HW9⟩
        · skip
          have HEE : Hid (nearP lo hi (l.take (k + 1)) = nearP lo hi (l.take k)) := by
            show _ = _
            rw [HTK.out, nearP_snoc, if_neg g1, if_neg g2]
            simp
          go_wp2
          go_roundg (n - (k + 1))
          case measure => omega
          case rel => exact ⟨k + 1, q, d, B, rfl, by go_num, by omega, by omega, Lib.hid (by rw [HEE.out]; exact HR.out), HW⟩
    · obtain rfl : k = n := by omega
      have e : l.take k = l := List.take_of_length_le (by omega)
      rw [e] at HR
      have hql : (nearP lo hi l).length = q := by
        obtain ⟨hl, -⟩ := HR.out
        have e2 : ((nearP lo hi l).map segL).flatten.length = 5 * (nearP lo hi l).length := by
          have := rows_len (k := 5) ((nearP lo hi l).map segL) (fun r hr => by obtain ⟨y, _, rfl⟩ := List.mem_map.1 hr; rfl)
          simpa using this
        simp only [ints, List.length_map, e2] at hl
        omega
      subst hql
      have HEND : Hid (Segs wr B (nearP lo hi l).length d (nearP lo hi l)) := SRow.segs HR.out rfl
      go_wp2
      go_ret
      exact ⟨B, d, rfl, HEND.out, HW.out⟩
end Go.Proofs.Ytbijaaglmhoopaa
