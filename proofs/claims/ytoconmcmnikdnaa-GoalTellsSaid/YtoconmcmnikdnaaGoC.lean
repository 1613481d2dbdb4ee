/-
  The calls whose answers the document fixes, at the head of layer 10's laws.
-/
import Derived.Test.YtoconmcmnikdnaaGoB
import Derived.Test.YtoconmcmnikdnaaWayE
namespace Go.Proofs.Ytoconmcmnikdnaa
open Go.RowKit
set_option linter.unusedVariables false
set_option linter.unusedSimpArgs false
set_option maxRecDepth 20000

def aw10P : SetP := ⟨3, [[0, 1, 300]], 1, 2, [[5, 1, 3, 2]], [[1, 1]], [[1, 1]], 10, 1, 60, 0, 0, 0, 0, 0, 0, 0, 0, [1], 0, 0, 0, []⟩
def aw10C (N : Nat) : Array Value := #[.int .i64 3, .slice (some ⟨N + 1, 0, none⟩) 1 1, .int .i64 1, .int .i64 2, .slice (some ⟨N + 1 + 1, 0, none⟩) 1 1, .slice (some ⟨N + 1 + 1 + 1, 0, none⟩) 1 1, .slice (some ⟨N + 1 + 1 + 1 + 1, 0, none⟩) 1 1, .int .i64 10, .int .i64 1, .int .i64 60,
  .int .i64 0, .int .i64 0, .int .i64 0, .int .i64 0, .int .i64 0, .int .i64 0, .int .i64 0, .int .i64 0, .slice (some ⟨N + 1 + 1 + 1 + 1 + 1, 0, none⟩) 1 1, .int .i64 0, .int .i64 0, .int .i64 0, .slice none 0 0]
theorem aw10C_V (N : Nat) : setV aw10P (some ⟨N + 1, 0, none⟩) (some ⟨N + 1 + 1, 0, none⟩) (some ⟨N + 1 + 1 + 1, 0, none⟩) (some ⟨N + 1 + 1 + 1 + 1, 0, none⟩) (some ⟨N + 1 + 1 + 1 + 1 + 1, 0, none⟩) none 1 1 1 1 1 0 = .agg (aw10C N) := rfl
theorem aw10_check : checkB aw10P = true := by decide +kernel
theorem aw10_may : aw10P.May := check_iff.1 aw10_check
theorem aw10_fit : aw10P.Fit := by constructor <;> simp [aw10P, In64]
def aw10a : EvP := ⟨0, 0, 0, 3, 0, 1, 0, 40, 0, 0, 0⟩
def aw10b : EvP := ⟨0, 0, 0, 3, 0, 2, 0, 0, 0, 0, 0⟩
def aw10c : EvP := ⟨0, 0, 0, 1, 0, 0, 0, 0, 0, 0, 0⟩
theorem aw10_dist : roundsE (edgesOf aw10P.ways) 3 (startL 3 0) = [0, 300, -1] := by decide +kernel
theorem among10 : Among 3 (edgesOf aw10P.ways) := edges_among (p := 3) rfl aw10_may.ways.2
theorem aw10_at : farV aw10P 0 1 = 300 ∧ farV aw10P 0 2 = -1 := by
  have h0 := rounds_list (edges_long aw10_may.ways.2) among10 (a := 0) (by omega)
  rw [aw10_dist] at h0
  simp only [List.range_succ, List.range_zero, List.nil_append, List.cons_append, List.map_cons, List.map_nil, List.cons.injEq, and_true] at h0
  exact ⟨(farV_in aw10_may (P := 3) rfl (a := 0) (b := 1) (by omega) (by omega)).trans h0.2.1.symm, (farV_in aw10_may (P := 3) rfl (a := 0) (b := 2) (by omega) (by omega)).trans h0.2.2.symm⟩
theorem aw10_a : goalE aw10P aw10a = ⟨473, 2, 0⟩ := by
  have hf : farV aw10P aw10a.fr aw10a.to = 300 := aw10_at.1
  rw [goalE_yes ⟨aw10_check, by decide +kernel, rfl, by rw [hf]; decide⟩, hf]
  exact rat2_ext (by decide +kernel) (by decide +kernel) (by decide +kernel)
theorem aw10_b : goalE aw10P aw10b = ⟨0, 0, 100⟩ := goalE_no (fun h => h.2.2.2 aw10_at.2)
theorem aw10_c : goalE aw10P aw10c = ⟨0, 0, 100⟩ := goalE_no (fun h => absurd h.2.2.1 (by decide))
theorem ev_in (a b c d e f g h i j k : Int) (hb : ∀ z ∈ [a, b, c, d, e, f, g, h, i, j, k], -9223372036854775808 ≤ z ∧ z ≤ 9223372036854775807) : (⟨a, b, c, d, e, f, g, h, i, j, k⟩ : EvP).In :=
  ⟨hb a (by simp), hb b (by simp), hb c (by simp), hb d (by simp), hb e (by simp), hb f (by simp), hb g (by simp), hb h (by simp), hb i (by simp), hb j (by simp), hb k (by simp)⟩
set_option maxHeartbeats 8000000 in
theorem awake10 (w : World) : Calls Try.prog 8 #[] w fun e w' => e = .returned (.bool true) ∧ Below w.heap.size w w' := by
  have H1 := Lib.hid (setV_cells _ _ _ _ _ _ _ _ _ _ _ _ _ _ (aw10C_V w.heap.size))
  have HZ := Lib.hid H1.out.1
  go_enter Try.func8, Try.ntmps8
  go_upto_region 2 with fail
  go_cut [2] (fun v2 wx => ∃ g : Nat, v2 = .pointer (some ⟨g, 0, none⟩) ∧ Hid (Has wx g (aw10C w.heap.size)) ∧ Hid (SetC wx aw10P (aw10C w.heap.size)) ∧ Hid (Below w.heap.size w wx))
  case first =>
    go_wp2_with (first | refine wpList_laidS (aw10C w.heap.size) 2 _ _ rfl rfl rfl rfl rfl rfl rfl rfl H1.out.1 H1.out.2 ?_ | refine wpList_load_has (by rfl) _ rfl _ rfl (aw10C w.heap.size) (Has.new _ _ _ rfl) H1.out.1 ?_)
    go_meet
    refine ⟨_, rfl, ?_, ?_, ?_⟩
    · exact Has.new _ _ _ rfl
    · refine Lib.hid ⟨_, _, _, _, _, _, _, _, _, _, _, _, aw10C_V w.heap.size, tab_rows (t := [[0, 1, 300]]) ?_ (by simp) rfl (by decide) (by simp [In64]), tab_rows (t := [[5, 1, 3, 2]]) ?_ (by simp) rfl (by decide) (by simp [In64]), tab_rows (t := [[1, 1]]) ?_ (by simp) rfl (by decide) (by simp [In64]),
        tab_rows (t := [[1, 1]]) ?_ (by simp) rfl (by decide) (by simp [In64]), tab_rows (t := [[1]]) ?_ (by simp) rfl (by decide) (by simp [In64]), Tab.nil_⟩
      · exact (((((Has.new _ _ _ (by simp)).alloc _).alloc _).alloc _).alloc _).alloc _
      · exact ((((Has.new _ _ _ (by simp)).alloc _).alloc _).alloc _).alloc _
      · exact (((Has.new _ _ _ (by simp)).alloc _).alloc _).alloc _
      · exact ((Has.new _ _ _ (by simp)).alloc _).alloc _
      · exact (Has.new _ _ _ (by simp)).alloc _
    · show Below _ _ _
      (repeat' (first | with_reducible exact Below.refl _ _ | with_reducible assumption | with_reducible refine bel_alloc ?_ _ | with_reducible refine bel_set ?_ ?_ _ | with_reducible refine below_drewN ?_ _ | with_reducible refine below_drew ?_ | (simp; done) | (simp; omega) | omega))
  case rest =>
    obtain ⟨g, rfl, HB, HS, HBW⟩ := hcut
    have A := Lib.hid (And.intro aw10_a (And.intro aw10_b aw10_c))
    have hS9 := HZ.out
    clear H1
    generalize aw10C w.heap.size = cs at *
    go_upto_region 3 with fail
    go_cut [3, 4] (fun v3 v4 wx => ∃ g3 : Nat, v3 = .pointer (some ⟨g3, 0, none⟩) ∧ v4 = .int .i64 0 ∧ Hid (Has wx g3 #[.int .i64 473, .int .i64 2]) ∧ Hid (Has wx g cs) ∧ Hid (SetC wx aw10P cs) ∧ Hid (Below w.heap.size w wx))
    case first =>
      refine wp_region_lit ?_
      refine wpList_load_sg (by rfl) _ rfl g rfl cs HB.out HZ.out ?_
      (try simp only [Act.put, List.setIfInBounds_toArray, List.set_cons_zero, List.set_cons_succ])
      iterate 1 (refine wpList_step (fun K hK => ?_); go_simp; refine hK _ _ ?_; clear hK K; (try simp only [Act.put, List.setIfInBounds_toArray, List.set_cons_zero, List.set_cons_succ]))
      refine wpList_step (fun K hK => ?_)
      go_simp
      go_at_call 10
      refine (gof_any HS.out aw10_fit aw10a (ev_in _ _ _ _ _ _ _ _ _ _ _ (by simp)) _ A.out.1).mono ?_
      rintro e_r w5 ⟨rfl, b_⟩
      replace HB := Lib.hid (HB.out.below b_)
      replace HS := Lib.hid (HS.out.below b_)
      replace HBW := Lib.hid (bel_on HBW.out b_)
      clear b_
      refine hK _ _ ?_
      clear hK K
      (try simp only [Act.put, List.setIfInBounds_toArray, List.set_cons_zero, List.set_cons_succ])
      iterate 6 (refine wpList_step (fun K hK => ?_); go_simp; refine hK _ _ ?_; clear hK K; (try simp only [Act.put, List.setIfInBounds_toArray, List.set_cons_zero, List.set_cons_succ]))
      refine wpList_nil ?_
      go_wp2_with fail
      go_meet
      exact ⟨_, rfl, rfl, Lib.hid (Has.new _ _ _ rfl), Lib.hid (HB.out.alloc _), Lib.hid (HS.out.below (bel_alloc (Below.refl _ _) _)), Lib.hid (bel_alloc HBW.out _)⟩
    case rest =>
      clear HB HS HBW; obtain ⟨g3, rfl, rfl, H3, HB, HS, HBW⟩ := hcut
      go_upto_region 4 with fail
      go_cut [6] (fun v6 wx => v6 = .int .i64 100 ∧ Hid (Has wx g3 #[.int .i64 473, .int .i64 2]) ∧ Hid (Has wx g cs) ∧ Hid (SetC wx aw10P cs) ∧ Hid (Below w.heap.size w wx))
      case first =>
        refine wp_region_lit ?_
        refine wpList_load_sg (by rfl) _ rfl g rfl cs HB.out HZ.out ?_
        (try simp only [Act.put, List.setIfInBounds_toArray, List.set_cons_zero, List.set_cons_succ])
        iterate 1 (refine wpList_step (fun K hK => ?_); go_simp; refine hK _ _ ?_; clear hK K; (try simp only [Act.put, List.setIfInBounds_toArray, List.set_cons_zero, List.set_cons_succ]))
        refine wpList_step (fun K hK => ?_)
        go_simp
        go_at_call 10
        refine (gof_any HS.out aw10_fit aw10b (ev_in _ _ _ _ _ _ _ _ _ _ _ (by simp)) _ A.out.2.1).mono ?_
        rintro e_r w5 ⟨rfl, b_⟩
        replace HB := Lib.hid (HB.out.below b_)
        replace HS := Lib.hid (HS.out.below b_)
        replace HBW := Lib.hid (bel_on HBW.out b_)
        replace H3 := Lib.hid (H3.out.below b_)
        clear b_
        refine hK _ _ ?_
        clear hK K
        (try simp only [Act.put, List.setIfInBounds_toArray, List.set_cons_zero, List.set_cons_succ])
        iterate 6 (refine wpList_step (fun K hK => ?_); go_simp; refine hK _ _ ?_; clear hK K; (try simp only [Act.put, List.setIfInBounds_toArray, List.set_cons_zero, List.set_cons_succ]))
        refine wpList_nil ?_
        go_wp2_with fail
        go_meet
        exact ⟨rfl, Lib.hid (H3.out.alloc _), Lib.hid (HB.out.alloc _), Lib.hid (HS.out.below (bel_alloc (Below.refl _ _) _)), Lib.hid (bel_alloc HBW.out _)⟩
      case rest =>
        clear HB HS HBW H3; obtain ⟨rfl, H3, HB, HS, HBW⟩ := hcut
        go_upto_region 5 with fail
        go_cut [8] (fun v8 wx => v8 = .int .i64 100 ∧ Hid (Has wx g3 #[.int .i64 473, .int .i64 2]) ∧ Hid (Has wx g cs) ∧ Hid (SetC wx aw10P cs) ∧ Hid (Below w.heap.size w wx))
        case first =>
          refine wp_region_lit ?_
          refine wpList_load_sg (by rfl) _ rfl g rfl cs HB.out HZ.out ?_
          (try simp only [Act.put, List.setIfInBounds_toArray, List.set_cons_zero, List.set_cons_succ])
          iterate 1 (refine wpList_step (fun K hK => ?_); go_simp; refine hK _ _ ?_; clear hK K; (try simp only [Act.put, List.setIfInBounds_toArray, List.set_cons_zero, List.set_cons_succ]))
          refine wpList_step (fun K hK => ?_)
          go_simp
          go_at_call 10
          refine (gof_any HS.out aw10_fit aw10c (ev_in _ _ _ _ _ _ _ _ _ _ _ (by simp)) _ A.out.2.2).mono ?_
          rintro e_r w5 ⟨rfl, b_⟩
          replace HB := Lib.hid (HB.out.below b_)
          replace HS := Lib.hid (HS.out.below b_)
          replace HBW := Lib.hid (bel_on HBW.out b_)
          replace H3 := Lib.hid (H3.out.below b_)
          clear b_
          refine hK _ _ ?_
          clear hK K
          (try simp only [Act.put, List.setIfInBounds_toArray, List.set_cons_zero, List.set_cons_succ])
          iterate 6 (refine wpList_step (fun K hK => ?_); go_simp; refine hK _ _ ?_; clear hK K; (try simp only [Act.put, List.setIfInBounds_toArray, List.set_cons_zero, List.set_cons_succ]))
          refine wpList_nil ?_
          go_wp2_with fail
          go_meet
          exact ⟨rfl, Lib.hid (H3.out.alloc _), Lib.hid (HB.out.alloc _), Lib.hid (HS.out.below (bel_alloc (Below.refl _ _) _)), Lib.hid (bel_alloc HBW.out _)⟩
        case rest =>
          clear HB HS HBW H3; obtain ⟨rfl, H3, HB, HS, HBW⟩ := hcut
          obtain ⟨c0, c1, -, -⟩ := H3.out.two
          have z0 := cell_lt c0
          go_wp2
          go_ret
          exact ⟨rfl, HBW.out⟩
end Go.Proofs.Ytoconmcmnikdnaa
