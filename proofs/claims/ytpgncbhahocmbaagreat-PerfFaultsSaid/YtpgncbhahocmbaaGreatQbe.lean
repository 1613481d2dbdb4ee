/-
  The calls whose answers the document fixes, at the head of layer 18's laws.
-/
import Derived.Test.YtpgncbhahocmbaaGreatQbd
import Derived.Test.YtpgncbhahocmbaaGreatQbc
import Derived.Test.YtpgncbhahocmbaaGreatQba
import Derived.Test.YtpgncbhahocmbaaGreatQak
import Derived.Deep.RegionHeld3
import Derived.Test.YtpgncbhahocmbaaGreatQao
import Derived.Test.YtpgncbhahocmbaaGreatQan
import Derived.Deep.DeepCutAuto
import Derived.Test.YtpgncbhahocmbaaGreatQab
import Derived.Test.YtpgncbhahocmbaaGreatProg
import Derived.Test.YtpgncbhahocmbaaGreatQaa
import Derived.OpenShut
import Derived.Laws.Cover1
import Derived.WalkKit
import Derived.WalkLawsBesides
import Derived.Lib.Hide
import Derived.IntWalk
import Derived.Lib.SliceRun
import Derived.WalkMore
import Derived.ScopeJumps
import Derived.Laws.BytesArg
import Derived.Laws.Slices
import Derived.RegionTactic
import Derived.Test.YtpgncbhahocmbaaGreatQay
import Derived.Laws.Rows
import Derived.Test.YtpgncbhahocmbaaGreatQas
import Derived.Test.YtpgncbhahocmbaaGreatQaz
import Derived.Test.YtpgncbhahocmbaaGreatQap
namespace Go.Proofs.YtpgncbhahocmbaaGreat
open Go.RowKit
set_option linter.unusedVariables false
set_option linter.unusedSimpArgs false
set_option maxRecDepth 20000

def aw18P : SetP := ⟨1, [], 1, 1, [[1, 1, 1, 1]], [[1, 1]], [[1, 1]], 0, 1, 3600, 0, 0, 0, 0, 0, 0, 0, 0, [1], 0, 0, 60, [[10, 1], [60, 2]]⟩
def aw18C (N : Nat) : Array Value := #[.int .i64 1, .slice none 0 0, .int .i64 1, .int .i64 1, .slice (some ⟨N + 1 + 1, 0, none⟩) 1 1, .slice (some ⟨N + 1 + 1 + 1, 0, none⟩) 1 1, .slice (some ⟨N + 1 + 1 + 1 + 1, 0, none⟩) 1 1, .int .i64 0, .int .i64 1, .int .i64 3600, .int .i64 0, .int .i64 0, .int .i64 0,
  .int .i64 0, .int .i64 0, .int .i64 0, .int .i64 0, .int .i64 0, .slice (some ⟨N + 1 + 1 + 1 + 1 + 1, 0, none⟩) 1 1, .int .i64 0, .int .i64 0, .int .i64 60, .slice (some ⟨N + 1 + 1 + 1 + 1 + 1 + 1, 0, none⟩) 2 2]
theorem aw18C_V (N : Nat) : setV aw18P none (some ⟨N + 1 + 1, 0, none⟩) (some ⟨N + 1 + 1 + 1, 0, none⟩) (some ⟨N + 1 + 1 + 1 + 1, 0, none⟩) (some ⟨N + 1 + 1 + 1 + 1 + 1, 0, none⟩) (some ⟨N + 1 + 1 + 1 + 1 + 1 + 1, 0, none⟩) 0 1 1 1 1 2 = .agg (aw18C N) := rfl
theorem aw18_fit : aw18P.Fit := by constructor <;> simp [aw18P, In64]
theorem aw18_check : checkB aw18P = true := by decide +kernel
theorem aw18_may : aw18P.May := check_iff.1 aw18_check
def aw18a : EvP := ⟨2, 0, 100, 3, 0, 0, 0, 299, 0, 0, 0⟩
def aw18b : EvP := ⟨3, 0, 400, 3, 0, 0, 0, 119, 0, 0, 0⟩
def aw18L : List EvP := [⟨1, 0, 0, 1, 0, 0, 0, 0, 0, 0, 0⟩, aw18a, aw18b, ⟨4, 0, 500, 7, 0, 0, 0, 0, 0, 0, 0⟩, ⟨5, 0, 700, 2, 0, 0, 0, 0, 0, 0, 0⟩]
def aw18E : Array Value := (ints .i64 (aw18L.map evLs).flatten).toArray
theorem aw18_in : ∀ e ∈ aw18L, e.In := by
  intro e he
  simp only [aw18L, aw18a, aw18b, List.mem_cons, List.not_mem_nil, or_false] at he
  rcases he with rfl | rfl | rfl | rfl | rfl <;> constructor <;> simp
theorem aw18_dist : roundsE (edgesOf aw18P.ways) 1 (startL 1 0) = [0] := by decide +kernel
theorem aw18_at : farV aw18P 0 0 = 0 := by
  have hA : Among 1 (edgesOf aw18P.ways) := edges_among (p := 1) rfl aw18_may.ways.2
  have h0 := rounds_list (edges_long aw18_may.ways.2) hA (a := 0) (by omega)
  rw [aw18_dist] at h0
  simp only [List.range_succ, List.range_zero, List.nil_append, List.cons_append, List.map_cons, List.map_nil, List.cons.injEq, and_true] at h0
  exact (farV_in aw18_may (P := 1) rfl (a := 0) (b := 0) (by omega) (by omega)).trans h0.symm
theorem aw18_ga : goalE aw18P aw18a = ⟨300, 1, 0⟩ := by
  have hf : farV aw18P aw18a.fr aw18a.to = 0 := aw18_at
  rw [goalE_yes ⟨aw18_check, by decide +kernel, rfl, by rw [hf]; decide⟩, hf]
  exact rat2_ext (by decide +kernel) (by decide +kernel) (by decide +kernel)
theorem aw18_gb : goalE aw18P aw18b = ⟨120, 1, 0⟩ := by
  have hf : farV aw18P aw18b.fr aw18b.to = 0 := aw18_at
  rw [goalE_yes ⟨aw18_check, by decide +kernel, rfl, by rw [hf]; decide⟩, hf]
  exact rat2_ext (by decide +kernel) (by decide +kernel) (by decide +kernel)
def aw18T : List SegP := [⟨100, 400, 1, 2, 0⟩, ⟨400, 700, 1, 3, 0⟩]
theorem aw18_tasks : tasksP aw18P 0 0 aw18L = aw18T := by decide +kernel
theorem aw18_tasks1 : tasksP aw18P 0 1 aw18L = [] := by decide +kernel
theorem aw18_ta : taskP (mayS aw18P) 0 2 aw18L = aw18a := by decide +kernel
theorem aw18_tb : taskP (mayS aw18P) 0 3 aw18L = aw18b := by decide +kernel
theorem aw18_lost : lostP (mayS aw18P) 0 0 aw18L = 1 := by decide +kernel
theorem aw18_lost1 : lostP (mayS aw18P) 0 1 aw18L = 0 := by decide +kernel
theorem aw18_goals : aw18T.map (goalX aw18P 0 aw18L) = [⟨300, 1, 0⟩, ⟨120, 1, 0⟩] := by
  unfold aw18T
  simp only [List.map_cons, List.map_nil]
  unfold goalX
  rw [aw18_ta, aw18_tb, aw18_ga, aw18_gb]
theorem done_ext {a b : DoneP} (h1 : a.en = b.en) (h2 : a.ed = b.ed) (h3 : a.el = b.el) (h4 : a.pn = b.pn) (h5 : a.pd = b.pd) (h6 : a.er = b.er) : a = b := by
  cases a; cases b; simp_all
theorem aw18_perf : perfP true aw18P 0 0 aw18L = ⟨360, 1, 600, 3, 5, 0⟩ := by
  unfold perfP
  rw [if_pos rfl, aw18_tasks, aw18_goals, aw18_lost]
  exact done_ext (by decide +kernel) (by decide +kernel) (by decide +kernel) (by decide +kernel) (by decide +kernel) (by decide +kernel)
theorem aw18_perf1 : perfP true aw18P 0 1 aw18L = ⟨0, 1, 0, 0, 1, 0⟩ := by
  unfold perfP
  rw [if_pos rfl, aw18_tasks1, aw18_lost1]
  exact done_ext (by decide +kernel) (by decide +kernel) (by decide +kernel) (by decide +kernel) (by decide +kernel) (by decide +kernel)
theorem aw18_t1 : topT true aw18P.tiers 3 5 = 1 := by decide +kernel
theorem aw18_t2 : topT true aw18P.tiers 59 100 = 0 := by decide +kernel
theorem aw18_t3 : topT true aw18P.tiers 0 1 = -1 := by decide +kernel
theorem aw18_ev {w : World} {g : Nat} (h : Has w g aw18E) : Evs w (some ⟨g, 0, none⟩) 5 5 aw18L := by
  refine ⟨⟨rfl, .inr ⟨_, rfl, fun j u hu => ?_⟩⟩, rfl⟩
  rw [tab_add, Nat.zero_add]
  exact h.cell j (by unfold aw18E; simpa using hu)
theorem agg18 {fn : Func} {p : Tmp} (h : fn.results = #[.cell p 30]) (tmps : Array Value) (w : World) (g : Nat) (cs : Array Value) (hp : tmps.getD p undef = .pointer (some ⟨g, 0, none⟩)) (hg : Has w g cs) (hs : cs.size = 23) :
    (results fn tmps).run Tryz.prog w = .ok (.agg cs) w := by
  obtain ⟨t, hg⟩ := hg
  exact results_cell_row h tmps w g t cs (0, 0) _ hp hg Tryz.underlying30 rfl (by rw [hs]; kernel_rfl)
theorem hset18 {w : World} {g : Nat} {old cs : Array Value} (h : Has w g old) : Has (w.setRow g cs) g cs := by
  obtain ⟨t, h⟩ := h
  exact ⟨t, setRow_heap _ _ _ _ _ _ h⟩
theorem hfar18 {w : World} {g g' : Nat} {cs cs' : Array Value} (h : Has w g' cs') (hne : g' ≠ g) : Has (w.setRow g cs) g' cs' := by
  obtain ⟨t, h⟩ := h
  exact ⟨t, (setRow_other w g g' cs hne).trans h⟩
set_option maxHeartbeats 4000000 in
theorem plan18 (w : World) : Calls Tryz.prog 29 #[] w fun e w' => ∃ cs, e = .returned (.agg cs) ∧ SetW w' aw18P cs ∧ Below w.heap.size w w' := by
  have H1 := Lib.hid (setV_cells _ _ _ _ _ _ _ _ _ _ _ _ _ _ (aw18C_V w.heap.size))
  have HN2 : Hid (Has ((w.alloc (.cells z23 30)).alloc (.cells #[.int .i64 1, .int .i64 1] 24)) w.heap.size z23) := (Has.new _ _ _ rfl).alloc _
  have HO2 : Hid (Has ((w.alloc (.cells z23 30)).alloc (.cells #[.int .i64 1, .int .i64 1] 24)) (w.heap.size + 1) #[.int .i64 1, .int .i64 1]) := Has.new _ _ _ (by simp)
  have HB2 : Hid (Below w.heap.size w ((w.alloc (.cells z23 30)).alloc (.cells #[.int .i64 1, .int .i64 1] 24))) := bel_alloc (bel_alloc (Below.refl _ _) _) _
  have hs2 : ((w.alloc (.cells z23 30)).alloc (.cells #[.int .i64 1, .int .i64 1] 24)).heap.size = w.heap.size + 1 + 1 := by simp
  go_enter Tryz.func29, Tryz.ntmps29
  go_upto_region 2 with fail
  unfold z23 at HN2 HO2 HB2 hs2
  generalize (w.alloc (.cells #[.int .i64 0, .slice none 0 0, .int .i64 0, .int .i64 0, .slice none 0 0, .slice none 0 0, .slice none 0 0, .int .i64 0, .int .i64 0, .int .i64 0, .int .i64 0, .int .i64 0, .int .i64 0, .int .i64 0, .int .i64 0, .int .i64 0, .int .i64 0, .int .i64 0, .slice none 0 0, .int .i64 0, .int .i64 0, .int .i64 0, .slice none 0 0] 30)).alloc (.cells #[.int .i64 1, .int .i64 1] 24) = w2 at *
  have o0 := HO2.out.cell 0 rfl
  have o1 := HO2.out.cell 1 rfl
  have oz := cell_lt o0
  have HN7 : Hid (Has (((((w2.alloc (.cells #[.int .i64 1, .int .i64 1, .int .i64 1, .int .i64 1] 104)).alloc (.cells #[.int .i64 1, .int .i64 1] 24)).alloc (.cells #[.int .i64 1, .int .i64 1] 24)).alloc (.cells #[.int .i64 1] 3)).alloc (.cells #[.int .i64 10, .int .i64 1, .int .i64 60, .int .i64 2] 67)) w.heap.size #[.int .i64 0, .slice none 0 0, .int .i64 0, .int .i64 0, .slice none 0 0, .slice none 0 0, .slice none 0 0, .int .i64 0, .int .i64 0, .int .i64 0, .int .i64 0, .int .i64 0, .int .i64 0, .int .i64 0, .int .i64 0, .int .i64 0, .int .i64 0, .int .i64 0, .slice none 0 0, .int .i64 0, .int .i64 0, .int .i64 0, .slice none 0 0]) := ((((HN2.out.alloc _).alloc _).alloc _).alloc _).alloc _
  have HB7 : Hid (Below w.heap.size w (((((w2.alloc (.cells #[.int .i64 1, .int .i64 1, .int .i64 1, .int .i64 1] 104)).alloc (.cells #[.int .i64 1, .int .i64 1] 24)).alloc (.cells #[.int .i64 1, .int .i64 1] 24)).alloc (.cells #[.int .i64 1] 3)).alloc (.cells #[.int .i64 10, .int .i64 1, .int .i64 60, .int .i64 2] 67))) := bel_alloc (bel_alloc (bel_alloc (bel_alloc (bel_alloc HB2.out _) _) _) _) _
  go_wp2_with (first | refine wpList_store_has rfl _ _ rfl w.heap.size (aw18C w.heap.size) rfl rfl _ HN7.out rfl H1.out.1 H1.out.2 ?_ | fail)
  refine bodyPost_ret (agg18 Tryz.results29 _ _ w.heap.size (aw18C w.heap.size) rfl (hset18 HN7.out) H1.out.1) rfl ?_
  refine ⟨_, rfl, setW_of (aw18C_V w.heap.size) ⟨Tab.nil_, tab_rows (t := [[1, 1, 1, 1]]) ?_ (by simp) rfl (by decide) (by simp [In64]), tab_rows (t := [[1, 1]]) ?_ (by simp) rfl (by decide) (by simp [In64]),
    tab_rows (t := [[1, 1]]) ?_ (by simp) rfl (by decide) (by simp [In64]), tab_rows (t := [[1]]) ?_ (by simp) rfl (by decide) (by simp [In64]), tab_rows (t := [[10, 1], [60, 2]]) ?_ (by simp) rfl (by decide) (by simp [In64])⟩ aw18_fit, evset_bel HB7.out (Nat.le_refl _) _⟩
  · exact hfar18 (((((Has.new _ _ _ hs2).alloc _).alloc _).alloc _).alloc _) (by omega)
  · exact hfar18 ((((Has.new _ _ _ (by simp [hs2])).alloc _).alloc _).alloc _) (by omega)
  · exact hfar18 (((Has.new _ _ _ (by simp [hs2])).alloc _).alloc _) (by omega)
  · exact hfar18 ((Has.new _ _ _ (by simp [hs2])).alloc _) (by omega)
  · exact hfar18 (Has.new _ _ _ (by simp [hs2])) (by omega)
set_option maxHeartbeats 16000000 in
theorem awake18 (w : World) : Calls Tryz.prog 9 #[] w fun e w' => e = .returned (.bool true) ∧ Below w.heap.size w w' := by
  have CP0 := Lib.hid (fun W cs g3 (hs : SetW W aw18P cs) (hE : Evs W (some ⟨g3, 0, none⟩) 5 5 aw18L) => perf_c hs true aw18_check (some ⟨g3, 0, none⟩) 5 5 aw18L 0 0 hE (by decide) aw18_in)
  have CO0 := Lib.hid (fun W cs g3 (hs : SetW W aw18P cs) (hE : Evs W (some ⟨g3, 0, none⟩) 5 5 aw18L) => perf_c hs true aw18_check (some ⟨g3, 0, none⟩) 5 5 aw18L 0 1 hE (by decide) aw18_in)
  rw [aw18_perf] at CP0
  rw [aw18_perf1] at CO0
  obtain ⟨D, hD⟩ : ∃ D : DoneP, (⟨360, 1, 600, 3, 5, 0⟩ : DoneP) = D := ⟨_, rfl⟩
  obtain ⟨E, hE⟩ : ∃ E : DoneP, (⟨0, 1, 0, 0, 1, 0⟩ : DoneP) = E := ⟨_, rfl⟩
  rw [hD] at CP0
  rw [hE] at CO0
  have HD := Lib.hid hD
  have HE' := Lib.hid hE
  clear hD hE
  go_enter Tryz.func9, Tryz.ntmps9
  go_upto_region 1 with fail
  go_cut [1] (fun v2 wx => ∃ (g : Nat) (cs : Array Value), v2 = .pointer (some ⟨g, 0, none⟩) ∧ Hid (Has wx g cs) ∧ Hid (SetW wx aw18P cs) ∧ Hid (Below w.heap.size w wx))
  case first =>
    go_wp2_with fail
    refine (plan18 _).mono ?_
    rintro e w1 ⟨cs, rfl, hS, b1⟩
    have HS1 := Lib.hid hS
    have HB1 := Lib.hid b1
    have HZ := Lib.hid hS.c.size
    have HO := Lib.hid hS.c.one
    clear hS b1
    go_wp2_with (first | refine wpList_laidS cs 1 _ _ rfl rfl rfl rfl rfl rfl rfl rfl HZ.out HO.out ?_)
    go_meet
    exact ⟨_, cs, rfl, Has.new _ _ _ rfl, Lib.hid (HS1.out.below (bel_alloc (Below.refl _ _) _)), Lib.hid (bel_alloc HB1.out _)⟩
  case rest =>
    obtain ⟨g, cs, rfl, HG, HS, HBW⟩ := hcut
    have HZ := Lib.hid HS.out.c.size
    have CP := Lib.hid (fun W g3 => CP0.out W cs g3)
    have CO := Lib.hid (fun W g3 => CO0.out W cs g3)
    clear CP0 CO0
    go_upto_region 2 with fail
    go_cut [2] (fun v3 wx => ∃ g3 : Nat, v3 = .slice (some ⟨g3, 0, none⟩) 5 5 ∧ Hid (Has wx g3 aw18E) ∧ Hid (Has wx g cs) ∧ Hid (SetW wx aw18P cs) ∧ Hid (Below w.heap.size w wx))
    case first =>
      go_wp2_with fail
      go_meet
      exact ⟨_, rfl, Has.new _ _ _ rfl, HG.out.alloc _, Lib.hid (HS.out.below (bel_alloc (Below.refl _ _) _)), bel_alloc HBW.out _⟩
    case rest =>
      clear HG HS HBW
      obtain ⟨g3, rfl, HE, HG, HS, HBW⟩ := hcut
      have HN : Hid (Dx w wc g aw18P cs (some ⟨g3, 0, none⟩) 5 5 aw18L) := ⟨HBW.out, HS.out, HG.out, aw18_ev HE.out⟩
      clear HE HG HS HBW
      replace CP := Lib.hid (fun W => CP.out W g3)
      replace CO := Lib.hid (fun W => CO.out W g3)
      go_upto_region 3 with fail
      go_cut [3, 4, 5, 6] (fun v12 v13 v14 v15 wx => ∃ g12 g14 : Nat, v12 = .pointer (some ⟨g12, 0, none⟩) ∧ v13 = .int .i64 D.el ∧ v14 = .pointer (some ⟨g14, 0, none⟩) ∧ v15 = .int .i64 D.er ∧ Hid (Has wx g12 #[.int .i64 D.en, .int .i64 D.ed]) ∧ Hid (Has wx g14 #[.int .i64 D.pn, .int .i64 D.pd]) ∧ Hid (Dx w wx g aw18P cs (some ⟨g3, 0, none⟩) 5 5 aw18L))
      case first =>
        go_wp2_with (refine wpList_exec (o := ⟨some 19, _, _, _, _, _⟩) (by rfl) (exec_load_st _ rfl rfl HN.out.h HZ.out) ?_)
        refine (CP.out _ HN.out.c HN.out.x).mono ?_
        rintro e w3 ⟨rfl, b3⟩
        have t0 := HN.out.below b3
        obtain ⟨w4, hw4⟩ : ∃ W, (w3.alloc (.cells #[.int .i64 0, .int .i64 0] 24)).alloc (.cells #[.int .i64 0, .int .i64 0] 24) = W := ⟨_, rfl⟩
        have b4 : Below w3.heap.size w3 w4 := by rw [← hw4]; exact bel_alloc (bel_alloc (Below.refl _ _) _) _
        have h12 : Has w4 w3.heap.size #[.int .i64 0, .int .i64 0] := by rw [← hw4]; exact (Has.new w3 _ _ rfl).alloc _
        have h14 : Has w4 (w3.heap.size + 1) #[.int .i64 0, .int .i64 0] := by rw [← hw4]; exact Has.new _ _ _ (by simp)
        obtain ⟨g12, hg12⟩ : ∃ g, w3.heap.size = g := ⟨_, rfl⟩
        rw [hg12] at h12 h14
        obtain ⟨g14, hg14⟩ : ∃ g, g12 + 1 = g := ⟨_, rfl⟩
        rw [hg14] at h14
        have q0 := h12.cell 0 rfl
        have q1 := h12.cell 1 rfl
        have q2 := h12.frozen 0
        have q3 := h12.frozen 1
        have ql := cell_lt q0
        have p0 := h14.cell 0 rfl
        have p1 := h14.cell 1 rfl
        have p2 := h14.frozen 0
        have p3 := h14.frozen 1
        have pl := cell_lt p0
        have hne : g12 < g14 := by omega
        obtain ⟨w5, hw5⟩ : ∃ W, (((w4.setCell ⟨g12, 0, none⟩ (.int .i64 D.en)).setCell ⟨g12, 1, none⟩ (.int .i64 D.ed)).setCell ⟨g14, 0, none⟩ (.int .i64 D.pn)).setCell ⟨g14, 1, none⟩ (.int .i64 D.pd) = W := ⟨_, rfl⟩
        have H12x : Hid (Has w5 g12 #[.int .i64 D.en, .int .i64 D.ed]) := by
          show Has _ _ _
          rw [← hw5]
          exact (((h12.set 0 _).set 1 _).far (p := ⟨g14, 0, none⟩) (by show g12 ≠ g14; omega) _).far (p := ⟨g14, 1, none⟩) (by show g12 ≠ g14; omega) _
        have H14x : Hid (Has w5 g14 #[.int .i64 D.pn, .int .i64 D.pd]) := by
          show Has _ _ _
          rw [← hw5]
          exact (((h14.far (p := ⟨g12, 0, none⟩) (by show g14 ≠ g12; omega) _).far (p := ⟨g12, 1, none⟩) (by show g14 ≠ g12; omega) _).set 0 _).set 1 _
        have b5 : Below w3.heap.size w3 w5 := by
          rw [← hw5]
          exact bel_set (bel_set (bel_set (bel_set b4 (by show _ ≤ g12; omega) _) (by show _ ≤ g12; omega) _) (by show _ ≤ g14; omega) _) (by show _ ≤ g14; omega) _
        have T0 := Lib.hid (t0.below b5)
        clear h12 h14 b4 b5 b3 t0 HN
        go_wp2_with fail
        go_meet
        exact ⟨g12, g14, rfl, rfl, rfl, rfl, H12x, H14x, T0⟩
      case rest =>
        obtain ⟨ga, gp, rfl, rfl, rfl, rfl, HA, HPP, HN2⟩ := hcut
        clear HN CP
        have HN := HN2
        clear HN2
        go_upto_region 4 with fail
        go_cut [7, 8, 9, 10] (fun v12 v13 v14 v15 wx => ∃ g12 g14 : Nat, v12 = .pointer (some ⟨g12, 0, none⟩) ∧ v13 = .int .i64 E.el ∧ v14 = .pointer (some ⟨g14, 0, none⟩) ∧ v15 = .int .i64 E.er ∧ Hid (Has wx g12 #[.int .i64 E.en, .int .i64 E.ed]) ∧ Hid (Has wx g14 #[.int .i64 E.pn, .int .i64 E.pd]) ∧ Hid (Has wx ga #[.int .i64 D.en, .int .i64 D.ed]) ∧ Hid (Has wx gp #[.int .i64 D.pn, .int .i64 D.pd]) ∧ Hid (Dx w wx g aw18P cs (some ⟨g3, 0, none⟩) 5 5 aw18L))
        case first =>
          go_wp2_with (refine wpList_exec (o := ⟨some 27, _, _, _, _, _⟩) (by rfl) (exec_load_st _ rfl rfl HN.out.h HZ.out) ?_)
          refine (CO.out _ HN.out.c HN.out.x).mono ?_
          rintro e w3 ⟨rfl, b3⟩
          have k0 := HA.out.below b3
          have k1 := HPP.out.below b3
          have t0 := HN.out.below b3
          obtain ⟨w4, hw4⟩ : ∃ W, (w3.alloc (.cells #[.int .i64 0, .int .i64 0] 24)).alloc (.cells #[.int .i64 0, .int .i64 0] 24) = W := ⟨_, rfl⟩
          have b4 : Below w3.heap.size w3 w4 := by rw [← hw4]; exact bel_alloc (bel_alloc (Below.refl _ _) _) _
          have h12 : Has w4 w3.heap.size #[.int .i64 0, .int .i64 0] := by rw [← hw4]; exact (Has.new w3 _ _ rfl).alloc _
          have h14 : Has w4 (w3.heap.size + 1) #[.int .i64 0, .int .i64 0] := by rw [← hw4]; exact Has.new _ _ _ (by simp)
          obtain ⟨g12, hg12⟩ : ∃ g, w3.heap.size = g := ⟨_, rfl⟩
          rw [hg12] at h12 h14
          obtain ⟨g14, hg14⟩ : ∃ g, g12 + 1 = g := ⟨_, rfl⟩
          rw [hg14] at h14
          have q0 := h12.cell 0 rfl
          have q1 := h12.cell 1 rfl
          have q2 := h12.frozen 0
          have q3 := h12.frozen 1
          have ql := cell_lt q0
          have p0 := h14.cell 0 rfl
          have p1 := h14.cell 1 rfl
          have p2 := h14.frozen 0
          have p3 := h14.frozen 1
          have pl := cell_lt p0
          have hne : g12 < g14 := by omega
          obtain ⟨w5, hw5⟩ : ∃ W, (((w4.setCell ⟨g12, 0, none⟩ (.int .i64 E.en)).setCell ⟨g12, 1, none⟩ (.int .i64 E.ed)).setCell ⟨g14, 0, none⟩ (.int .i64 E.pn)).setCell ⟨g14, 1, none⟩ (.int .i64 E.pd) = W := ⟨_, rfl⟩
          have H12x : Hid (Has w5 g12 #[.int .i64 E.en, .int .i64 E.ed]) := by
            show Has _ _ _
            rw [← hw5]
            exact (((h12.set 0 _).set 1 _).far (p := ⟨g14, 0, none⟩) (by show g12 ≠ g14; omega) _).far (p := ⟨g14, 1, none⟩) (by show g12 ≠ g14; omega) _
          have H14x : Hid (Has w5 g14 #[.int .i64 E.pn, .int .i64 E.pd]) := by
            show Has _ _ _
            rw [← hw5]
            exact (((h14.far (p := ⟨g12, 0, none⟩) (by show g14 ≠ g12; omega) _).far (p := ⟨g12, 1, none⟩) (by show g14 ≠ g12; omega) _).set 0 _).set 1 _
          have b5 : Below w3.heap.size w3 w5 := by
            rw [← hw5]
            exact bel_set (bel_set (bel_set (bel_set b4 (by show _ ≤ g12; omega) _) (by show _ ≤ g12; omega) _) (by show _ ≤ g14; omega) _) (by show _ ≤ g14; omega) _
          have K0 := Lib.hid (k0.below b5)
          have K1 := Lib.hid (k1.below b5)
          have T0 := Lib.hid (t0.below b5)
          clear h12 h14 b4 b5 b3 k0 k1 t0 HA HPP HN
          go_wp2_with fail
          go_meet
          exact ⟨g12, g14, rfl, rfl, rfl, rfl, H12x, H14x, K0, K1, T0⟩
        case rest =>
          clear HN HA HPP CO
          obtain ⟨gb, gq, rfl, rfl, rfl, rfl, HB1, HQ1, HA, HPP, HN⟩ := hcut
          have hD := HD.out
          have hE := HE'.out
          subst hD hE
          clear HD HE'
          simp only at HA HPP HB1 HQ1 ⊢
          have HG := Lib.hid HN.out.h
          have a0 := HA.out.cell 0 rfl
          have a1 := HA.out.cell 1 rfl
          have al := cell_lt a0
          have c0 := HPP.out.cell 0 rfl
          have c1 := HPP.out.cell 1 rfl
          have cl := cell_lt c0
          have b0 := HB1.out.cell 0 rfl
          have b1 := HB1.out.cell 1 rfl
          have bl := cell_lt b0
          have d0 := HQ1.out.cell 0 rfl
          have d1 := HQ1.out.cell 1 rfl
          have dl := cell_lt d0
          go_upto_region 5 with fail
          refine wp_region_lit ?_
          iterate 35 (refine wpList_step (fun K hK => ?_); go_simp; refine hK _ _ ?_; clear hK K; (try simp only [Act.put, List.setIfInBounds_toArray, List.set_cons_zero, List.set_cons_succ]))
          refine wpList_load_sg (by rfl) _ rfl g rfl cs HG.out HZ.out ?_
          (try simp only [Act.put, List.setIfInBounds_toArray, List.set_cons_zero, List.set_cons_succ])
          iterate 1 (refine wpList_step (fun K hK => ?_); go_simp; refine hK _ _ ?_; clear hK K; (try simp only [Act.put, List.setIfInBounds_toArray, List.set_cons_zero, List.set_cons_succ]))
          refine wpList_step (fun K hK => ?_)
          go_simp
          go_at_call 13
          refine (tier_c HN.out.c.c aw18_fit true aw18_check 3 5 (by unfold In64; omega) (by unfold In64; omega)).mono ?_
          rintro e_r w5 ⟨rfl, b_⟩
          rw [aw18_t1]
          replace HN := Lib.hid (HN.out.below b_)
          replace HG := Lib.hid HN.out.h
          replace HA := Lib.hid (HA.out.below b_)
          replace HPP := Lib.hid (HPP.out.below b_)
          replace HB1 := Lib.hid (HB1.out.below b_)
          replace HQ1 := Lib.hid (HQ1.out.below b_)
          clear b_ a0 a1 al b0 b1 bl c0 c1 cl d0 d1 dl
          have a0 := HA.out.cell 0 rfl
          have a1 := HA.out.cell 1 rfl
          have al := cell_lt a0
          have c0 := HPP.out.cell 0 rfl
          have c1 := HPP.out.cell 1 rfl
          have cl := cell_lt c0
          have b0 := HB1.out.cell 0 rfl
          have b1 := HB1.out.cell 1 rfl
          have bl := cell_lt b0
          have d0 := HQ1.out.cell 0 rfl
          have d1 := HQ1.out.cell 1 rfl
          have dl := cell_lt d0
          refine hK _ _ ?_
          clear hK K
          (try simp only [Act.put, List.setIfInBounds_toArray, List.set_cons_zero, List.set_cons_succ])
          iterate 3 (refine wpList_step (fun K hK => ?_); go_simp; refine hK _ _ ?_; clear hK K; (try simp only [Act.put, List.setIfInBounds_toArray, List.set_cons_zero, List.set_cons_succ]))
          refine wpList_load_sg (by rfl) _ rfl g rfl cs HG.out HZ.out ?_
          (try simp only [Act.put, List.setIfInBounds_toArray, List.set_cons_zero, List.set_cons_succ])
          iterate 1 (refine wpList_step (fun K hK => ?_); go_simp; refine hK _ _ ?_; clear hK K; (try simp only [Act.put, List.setIfInBounds_toArray, List.set_cons_zero, List.set_cons_succ]))
          refine wpList_step (fun K hK => ?_)
          go_simp
          go_at_call 13
          refine (tier_c HN.out.c.c aw18_fit true aw18_check 59 100 (by unfold In64; omega) (by unfold In64; omega)).mono ?_
          rintro e_r w6 ⟨rfl, b_⟩
          rw [aw18_t2]
          replace HN := Lib.hid (HN.out.below b_)
          replace HG := Lib.hid HN.out.h
          replace HA := Lib.hid (HA.out.below b_)
          replace HPP := Lib.hid (HPP.out.below b_)
          replace HB1 := Lib.hid (HB1.out.below b_)
          replace HQ1 := Lib.hid (HQ1.out.below b_)
          clear b_ a0 a1 al b0 b1 bl c0 c1 cl d0 d1 dl
          have a0 := HA.out.cell 0 rfl
          have a1 := HA.out.cell 1 rfl
          have al := cell_lt a0
          have c0 := HPP.out.cell 0 rfl
          have c1 := HPP.out.cell 1 rfl
          have cl := cell_lt c0
          have b0 := HB1.out.cell 0 rfl
          have b1 := HB1.out.cell 1 rfl
          have bl := cell_lt b0
          have d0 := HQ1.out.cell 0 rfl
          have d1 := HQ1.out.cell 1 rfl
          have dl := cell_lt d0
          refine hK _ _ ?_
          clear hK K
          (try simp only [Act.put, List.setIfInBounds_toArray, List.set_cons_zero, List.set_cons_succ])
          iterate 3 (refine wpList_step (fun K hK => ?_); go_simp; refine hK _ _ ?_; clear hK K; (try simp only [Act.put, List.setIfInBounds_toArray, List.set_cons_zero, List.set_cons_succ]))
          refine wpList_load_sg (by rfl) _ rfl g rfl cs HG.out HZ.out ?_
          (try simp only [Act.put, List.setIfInBounds_toArray, List.set_cons_zero, List.set_cons_succ])
          iterate 1 (refine wpList_step (fun K hK => ?_); go_simp; refine hK _ _ ?_; clear hK K; (try simp only [Act.put, List.setIfInBounds_toArray, List.set_cons_zero, List.set_cons_succ]))
          refine wpList_step (fun K hK => ?_)
          go_simp
          go_at_call 13
          refine (tier_c HN.out.c.c aw18_fit true aw18_check 0 1 (by unfold In64; omega) (by unfold In64; omega)).mono ?_
          rintro e_r w7 ⟨rfl, b_⟩
          rw [aw18_t3]
          replace HN := Lib.hid (HN.out.below b_)
          replace HG := Lib.hid HN.out.h
          replace HA := Lib.hid (HA.out.below b_)
          replace HPP := Lib.hid (HPP.out.below b_)
          replace HB1 := Lib.hid (HB1.out.below b_)
          replace HQ1 := Lib.hid (HQ1.out.below b_)
          clear b_ a0 a1 al b0 b1 bl c0 c1 cl d0 d1 dl
          have a0 := HA.out.cell 0 rfl
          have a1 := HA.out.cell 1 rfl
          have al := cell_lt a0
          have c0 := HPP.out.cell 0 rfl
          have c1 := HPP.out.cell 1 rfl
          have cl := cell_lt c0
          have b0 := HB1.out.cell 0 rfl
          have b1 := HB1.out.cell 1 rfl
          have bl := cell_lt b0
          have d0 := HQ1.out.cell 0 rfl
          have d1 := HQ1.out.cell 1 rfl
          have dl := cell_lt d0
          refine hK _ _ ?_
          clear hK K
          (try simp only [Act.put, List.setIfInBounds_toArray, List.set_cons_zero, List.set_cons_succ])
          iterate 3 (refine wpList_step (fun K hK => ?_); go_simp; refine hK _ _ ?_; clear hK K; (try simp only [Act.put, List.setIfInBounds_toArray, List.set_cons_zero, List.set_cons_succ]))
          refine wpList_nil ?_
          go_wp2_with fail
          go_ret
          exact ⟨rfl, HN.out.b⟩
end Go.Proofs.YtpgncbhahocmbaaGreat
