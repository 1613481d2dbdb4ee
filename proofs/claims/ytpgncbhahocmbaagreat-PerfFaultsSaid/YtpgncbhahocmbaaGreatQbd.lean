/-
  Perf.Of is what the document says.
-/
import Derived.Test.YtpgncbhahocmbaaGreatQas
import Derived.Test.YtpgncbhahocmbaaGreatQbc
import Derived.Test.YtpgncbhahocmbaaGreatQbb
import Derived.Test.YtpgncbhahocmbaaGreatQba
import Derived.Test.YtpgncbhahocmbaaGreatQao
import Derived.Test.YtpgncbhahocmbaaGreatQay
import Derived.Test.YtpgncbhahocmbaaGreatQan
import Derived.Test.YtpgncbhahocmbaaGreatQap
import Derived.Test.YtpgncbhahocmbaaGreatQav
import Derived.Deep.DeepCutAuto
namespace Go.Proofs.YtpgncbhahocmbaaGreat
open Go.RowKit
set_option linter.unusedVariables false
set_option linter.unusedSimpArgs false
set_option maxRecDepth 20000

theorem addR_64 : ∀ (l : List (Int × Int)) (s : Rat2), ((-9223372036854775808 ≤ s.n ∧ s.n ≤ 9223372036854775807) ∧ (-9223372036854775808 ≤ s.d ∧ s.d ≤ 9223372036854775807)) → ((-9223372036854775808 ≤ (addR s l).n ∧ (addR s l).n ≤ 9223372036854775807) ∧ (-9223372036854775808 ≤ (addR s l).d ∧ (addR s l).d ≤ 9223372036854775807))
  | [], s, h => h
  | x :: l, s, h => by simp only [addR]; exact addR_64 l _ (plus64' _ _ _ _)
theorem minusR_z' (a b c d : Int) : (minusR a b c d).c ≠ 0 → (minusR a b c d).n = 0 ∧ (minusR a b c d).d = 0 := by unfold minusR; split; exact mkR_z _ _; exact fun _ => ⟨rfl, rfl⟩
theorem minus64' (a b c d : Int) : (-9223372036854775808 ≤ (minusR a b c d).n ∧ (minusR a b c d).n ≤ 9223372036854775807) ∧ (-9223372036854775808 ≤ (minusR a b c d).d ∧ (minusR a b c d).d ≤ 9223372036854775807) := rat_i64 _ (minusR_may a b c d) (minusR_z' a b c d)
theorem cutN_64 {X : Rat2} (h : (-9223372036854775808 ≤ X.n ∧ X.n ≤ 9223372036854775807) ∧ (-9223372036854775808 ≤ X.d ∧ X.d ≤ 9223372036854775807)) : (-9223372036854775808 ≤ (cutN X).n ∧ (cutN X).n ≤ 9223372036854775807) ∧ (-9223372036854775808 ≤ (cutN X).d ∧ (cutN X).d ≤ 9223372036854775807) := by
  unfold cutN
  split
  · exact ⟨by constructor <;> decide, by constructor <;> decide⟩
  · exact h
theorem code_is {F : Int} {gs : List Rat2} {lost : Nat} {el : Int} {S M X R : Rat2} (hS : addR ⟨0, 1, fstC 0 (wrongP gs)⟩ (goalRats gs) = S) (hM : mkR (F * lost) 1 = M) (hX : minusR S.n S.d M.n M.d = X) (hR : cutN X = R) :
    codeP F gs lost el = if lastC el (fstC (fstC S.c M.c) X.c) R ≠ 0 then ⟨0, 0, el, 0, 0, lastC el (fstC (fstC S.c M.c) X.c) R⟩ else ⟨R.n, R.d, el, (lastR el R).n, (lastR el R).d, 0⟩ := by
  subst hS hM hX hR
  rfl
theorem lost_len (may : EvP → Bool) (wk k : Int) (l : List EvP) : lostP may wk k l ≤ l.length := by
  unfold lostP
  exact List.length_filter_le _ _
theorem perf_code {s : SetP} (hb : checkB s = true) (wk k : Int) (l : List EvP) (hl : l.length ≤ 800) (hIn : ∀ e ∈ l, e.In) :
    perfP true s wk k l = codeP s.fault ((tasksP s wk k l).map (goalX s wk l)) (lostP (mayS s) wk k l) (secsP (tasksP s wk k l)) := by
  have hM := check_iff.1 hb
  have hF := hM.fault
  have hln := lost_len (mayS s) wk k l
  obtain ⟨hu, hb2⟩ := segsOf_up s wk l
  have hT : ∀ x ∈ tasksP s wk k l, 0 ≤ x.fr ∧ x.fr < x.to ∧ x.to ≤ 32054400 := fun x hx => hb2 x (List.mem_filter.1 hx).1
  have hsb : 0 ≤ secsP (tasksP s wk k l) ∧ secsP (tasksP s wk k l) ≤ 32054400 - 0 := secs_bd (hi := 32054400) (up_filter (ofWk k) hu) (fun x hx => (hb2 x (List.mem_filter.1 hx).1).2.2) (by omega)
  have hFl : 0 ≤ s.fault * (lostP (mayS s) wk k l : Int) ∧ s.fault * (lostP (mayS s) wk k l : Int) ≤ 2147483647 := by
    have hq : (lostP (mayS s) wk k l : Int) ≤ 800 := by omega
    have hq0 : 0 ≤ (lostP (mayS s) wk k l : Int) := by omega
    generalize (lostP (mayS s) wk k l : Int) = q at *
    refine ⟨?_, ?_⟩
    · exact Int.mul_nonneg hF.1 hq0
    · have := Int.mul_le_mul hF.2 hq hq0 (by omega)
      omega
  rw [code_done hFl (fun g hg hc => ?_) hsb.1 (fun h0 => ?_)]
  · unfold perfP
    rw [if_pos rfl]
  · obtain ⟨x, -, rfl⟩ := List.mem_map.1 hg
    unfold goalX at hc ⊢
    rcases goalE_three (s := s) (e := taskP (mayS s) wk x.id l) rfl with q | q | q
    · exact q.2.1
    · rw [q.1] at hc; simp at hc
    · rw [q.1] at hc; simp at hc
  · have := secs_pos (S := tasksP s wk k l) (fun x hx => (hT x hx).2.1)
    have hnil : tasksP s wk k l = [] := by
      by_cases q : tasksP s wk k l = []
      · exact q
      · have := this.2 q; omega
    rw [hnil]
    rfl
structure Pf (w0 w : World) (gs g8 g10 g12 : Nat) (s : SetP) (cs : Array Value) : Prop where
  b : Below w0.heap.size w0 w
  c : SetW w s cs
  h : Has w gs cs
  r8 : Has w g8 #[.int .i64 0, .int .i64 0]
  r10 : Has w g10 #[.int .i64 0, .int .i64 0]
  r12 : Has w g12 #[.int .i64 0, .int .i64 1]
theorem Pf.below {w0 w w' : World} {gs g8 g10 g12 : Nat} {s : SetP} {cs : Array Value} (h : Pf w0 w gs g8 g10 g12 s cs) (k : Below w.heap.size w w') : Pf w0 w' gs g8 g10 g12 s cs := ⟨bel_on h.b k, h.c.below k, h.h.below k, h.r8.below k, h.r10.below k, h.r12.below k⟩
theorem goalRats_len (gs : List Rat2) : (goalRats gs).length ≤ gs.length := by
  unfold goalRats
  split
  · unfold ratsP; rw [List.length_map]; exact Nat.le_refl _
  · exact Nat.zero_le _
theorem cut_neg {X : Rat2} (h : X.n < 0) : cutN X = ⟨0, 1, 0⟩ := by unfold cutN; rw [if_pos h]
theorem cut_pos {X : Rat2} (h : ¬ X.n < 0) : cutN X = ⟨X.n, X.d, 0⟩ := by unfold cutN; rw [if_neg h]
/-- What is left to be read once the sum goes on. -/
structure Pg (w0 w : World) (g8 g10 g12 : Nat) : Prop where
  b : Below w0.heap.size w0 w
  r8 : Has w g8 #[.int .i64 0, .int .i64 0]
  r10 : Has w g10 #[.int .i64 0, .int .i64 0]
  r12 : Has w g12 #[.int .i64 0, .int .i64 1]
theorem bel_below' {a b c : World} {B : Nat} (h : Below B a b) (k : Below B b c) : Below B a c := h.trans k
theorem Pg.of {w0 w w' : World} {gs g8 g10 g12 g15 : Nat} {s : SetP} {cs : Array Value} (h : Pf w0 w gs g8 g10 g12 s cs) (k : Chg (fun b => b = g15) w w') (h0 : w0.heap.size ≤ g15) (h8 : g8 < g15) (h10 : g10 < g15) (h12 : g12 < g15) (hg : True) : Pg w0 w' g8 g10 g12 :=
  ⟨bel_below' h.b (k.below (B := w0.heap.size) h.b.size (by intro i hi; omega)), h.r8.chg (by omega) k, h.r10.chg (by omega) k, h.r12.chg (by omega) k⟩
theorem bel_below {a b c : World} (h : Below a.heap.size a b) (k : Below a.heap.size b c) : Below a.heap.size a c := h.trans k
set_option maxHeartbeats 16000000 in
theorem perf_c {w : World} {s : SetP} {cs : Array Value} (hW : SetW w s cs) (b : Bool) (hb : checkB s = b) (A : Option Addr) (n c : Nat) (l : List EvP) (wk week : Int) (h : Evs w A n c l) (hn : n ≤ 800) (hIn : ∀ e ∈ l, e.In) :
    Calls Tryz.prog 11 #[.agg cs, .slice A n c, .int .i64 wk, .int .i64 week] w fun e w' => e = .returned (.tuple #[.agg #[.int .i64 (perfP b s wk week l).en, .int .i64 (perfP b s wk week l).ed], .int .i64 (perfP b s wk week l).el, .agg #[.int .i64 (perfP b s wk week l).pn, .int .i64 (perfP b s wk week l).pd], .int .i64 (perfP b s wk week l).er]) ∧ Below w.heap.size w w' := by
  have mixed : Tryz.prog.follows Departure.mixedOrders = true := by kernel_rfl
  have HM := Lib.hid mixed
  have HZ := Lib.hid hW.size
  have hlen := h.2
  obtain ⟨w1, hw1⟩ : ∃ W, (((w.alloc (.cells cs 30)).alloc (.cells #[.int .i64 0, .int .i64 0] 24)).alloc (.cells #[.int .i64 0, .int .i64 0] 24)).alloc (.cells #[.int .i64 0, .int .i64 1] 24) = W := ⟨_, rfl⟩
  have hb1 : Below w.heap.size w w1 := by rw [← hw1]; exact bel_alloc (bel_alloc (bel_alloc (bel_alloc (Below.refl _ _) _) _) _) _
  have hg1 : Has w1 w.heap.size cs := by rw [← hw1]; exact (((Has.new w _ _ rfl).alloc _).alloc _).alloc _
  have h81 : Has w1 (w.heap.size + 1) #[.int .i64 0, .int .i64 0] := by rw [← hw1]; exact ((Has.new _ _ _ (by simp)).alloc _).alloc _
  have h101 : Has w1 (w.heap.size + 1 + 1) #[.int .i64 0, .int .i64 0] := by rw [← hw1]; exact (Has.new _ _ _ (by simp)).alloc _
  have h121 : Has w1 (w.heap.size + 1 + 1 + 1) #[.int .i64 0, .int .i64 1] := by rw [← hw1]; exact Has.new _ _ _ (by simp)
  obtain ⟨g8, hg8⟩ : ∃ g, w.heap.size + 1 = g := ⟨_, rfl⟩
  rw [hg8] at h81 h101 h121
  obtain ⟨g10, hg10⟩ : ∃ g, g8 + 1 = g := ⟨_, rfl⟩
  rw [hg10] at h101 h121
  obtain ⟨g12, hg12⟩ : ∃ g, g10 + 1 = g := ⟨_, rfl⟩
  rw [hg12] at h121
  have HG1 := Lib.hid hg1
  have H81 := Lib.hid h81
  have H101 := Lib.hid h101
  have H121 := Lib.hid h121
  have HBA := Lib.hid hb1
  have HW1 := Lib.hid (hW.below hb1)
  have HE1 := Lib.hid (h.below hb1)
  have HCK := Lib.hid (fun W (hs : SetC W s cs) => scheck_c hs hW.f b hb)
  have HBB := Lib.hid hb
  have HIN := Lib.hid hIn
  have o8 : w.heap.size < g8 := by omega
  have o10 : g8 < g10 := by omega
  have o12 : g10 < g12 := by omega
  clear hb1 hg1 h81 h101 h121 hW h hb hIn
  go_enter Tryz.func11, Tryz.ntmps11
  go_wp2_with (refine wpList_exec (o := ⟨some 17, _, _, _, _, _⟩) (by rfl) (exec_load_st _ rfl rfl HG1.out HZ.out) ?_)
  clear hw1 hg8 hg10 hg12
  refine (HCK.out _ HW1.out.c).mono ?_
  rintro e wc ⟨rfl, b2⟩
  have HG := Lib.hid (HG1.out.below b2)
  have H8 := Lib.hid (H81.out.below b2)
  have H10 := Lib.hid (H101.out.below b2)
  have H12 := Lib.hid (H121.out.below b2)
  have HWC := Lib.hid (HW1.out.below b2)
  have HEV := Lib.hid (HE1.out.below b2)
  have HBC := Lib.hid (bel_on HBA.out b2)
  clear b2 HG1 H81 H101 H121 HW1 HE1 HBA HCK
  cases b with
  | false =>
    have HPF : Hid (perfP false s wk week l = ⟨0, 1, 0, 0, 1, 0⟩) := rfl
    clear HWC HEV HG
    go_wp2_with fail
    refine wp_region_noPanic ?_
    refine wp_region_held_drew (S := fun w' => Chg (fun b => b = g8 ∨ b = g10) wc w') (by kernel_rfl) (Chg.of_below (below_drew (Below.refl _ _))) (fun hHeld => ?_)
    refine wpAnyH_take (i := 0) (oi := ⟨some 20, _, _, _, _, _⟩) (v := .agg #[.int .i64 0, .int .i64 1]) rfl (by kernel_rfl) (by kernel_rfl) (by kernel_rfl) (fun _ _ _ h => h) (Or.inl ⟨by rfl, ?_⟩) hHeld ?_
    · intro ww hSw
      (try dsimp only at hSw)
      have qc0 := (H12.out.chg (by omega) hSw).cell 0 rfl
      have qc1 := (H12.out.chg (by omega) hSw).cell 1 rfl
      have qz := cell_lt qc0
      go_simp
    simp only [Act.put, List.setIfInBounds_toArray, List.set_cons_zero, List.set_cons_succ]
    refine wpAnyH_take (i := 1) (oi := ⟨some 21, _, _, _, _, _⟩) (v := .agg #[.int .i64 0, .int .i64 1]) rfl (by kernel_rfl) (by kernel_rfl) (by kernel_rfl) (fun _ _ _ h => h) (Or.inl ⟨by rfl, ?_⟩) hHeld ?_
    · intro ww hSw
      (try dsimp only at hSw)
      have qc0 := (H12.out.chg (by omega) hSw).cell 0 rfl
      have qc1 := (H12.out.chg (by omega) hSw).cell 1 rfl
      have qz := cell_lt qc0
      go_simp
    simp only [Act.put, List.setIfInBounds_toArray, List.set_cons_zero, List.set_cons_succ]
    have HHd := hHeld
    have H8d := H8.out.drew
    have H10d := H10.out.drew
    clear hHeld
    generalize wc.drew = wd at *
    have k0 := H8d.cell 0 rfl
    have k1 := H8d.cell 1 rfl
    have k2 := H8d.frozen 0
    have k3 := H8d.frozen 1
    have kz := cell_lt k0
    refine wpAnyH_ready (rs := [2]) (by kernel_rfl) (by simp) ?_
    refine AllReadyH.cons (o := ⟨none, _, _, _, _, _⟩) rfl (fun K hK => ?_) AllReadyH.nil
    go_simp
    refine hK.out _ _ ?_ (fun hHeld => ?_)
    · (try dsimp only)
      exact (HHd.set (p := ⟨g8, 0, none⟩) (.inr (.inl rfl)) _).set (p := ⟨g8, 1, none⟩) (.inr (.inl rfl)) _
    clear hK K
    (try simp only [Act.put, List.setIfInBounds_toArray, List.set_cons_zero, List.set_cons_succ])
    have H8e := (H8d.set 0 (.int .i64 0)).set 1 (.int .i64 1)
    have H10e := (H10d.far (p := ⟨g8, 0, none⟩) (by show g10 ≠ g8; omega) (.int .i64 0)).far (p := ⟨g8, 1, none⟩) (by show g10 ≠ g8; omega) (.int .i64 1)
    clear k0 k1 k2 k3 kz H8d H10d HHd
    generalize (wd.setCell ⟨g8, 0, none⟩ (.int .i64 0)).setCell ⟨g8, 1, none⟩ (.int .i64 1) = we at *
    refine wpAnyH_take (i := 3) (oi := ⟨some 9, _, _, _, _, _⟩) (v := ?_) rfl (by kernel_rfl) (by kernel_rfl) (by kernel_rfl) (fun _ _ _ h => h) (Or.inl ⟨by rfl, ?_⟩) hHeld ?_
    rotate_left
    · intro ww hSw
      (try dsimp only at hSw)
      go_simp
      (try with_reducible rfl)
    simp only [Act.put, List.setIfInBounds_toArray, List.set_cons_zero, List.set_cons_succ]
    have k0 := H10e.cell 0 rfl
    have k1 := H10e.cell 1 rfl
    have k2 := H10e.frozen 0
    have k3 := H10e.frozen 1
    have kz := cell_lt k0
    have HHe := hHeld
    clear hHeld
    refine wpAnyH_ready (rs := [4]) (by kernel_rfl) (by simp) ?_
    refine AllReadyH.cons (o := ⟨none, _, _, _, _, _⟩) rfl (fun K hK => ?_) AllReadyH.nil
    go_simp
    refine hK.out _ _ ?_ (fun hHeld => ?_)
    · (try dsimp only)
      exact (HHe.set (p := ⟨g10, 0, none⟩) (.inr (.inr rfl)) _).set (p := ⟨g10, 1, none⟩) (.inr (.inr rfl)) _
    clear hK K
    (try simp only [Act.put, List.setIfInBounds_toArray, List.set_cons_zero, List.set_cons_succ])
    have H10f := (H10e.set 0 (.int .i64 0)).set 1 (.int .i64 1)
    have H8f := (H8e.far (p := ⟨g10, 0, none⟩) (by show g8 ≠ g10; omega) (.int .i64 0)).far (p := ⟨g10, 1, none⟩) (by show g8 ≠ g10; omega) (.int .i64 1)
    clear k0 k1 k2 k3 kz H8e H10e HHe
    generalize (we.setCell ⟨g10, 0, none⟩ (.int .i64 0)).setCell ⟨g10, 1, none⟩ (.int .i64 1) = wf at *
    refine wpAnyH_take (i := 5) (oi := ⟨some 11, _, _, _, _, _⟩) (v := ?_) rfl (by kernel_rfl) (by kernel_rfl) (by kernel_rfl) (fun _ _ _ h => h) (Or.inl ⟨by rfl, ?_⟩) hHeld ?_
    rotate_left
    · intro ww hSw
      (try dsimp only at hSw)
      go_simp
      (try with_reducible rfl)
    simp only [Act.put, List.setIfInBounds_toArray, List.set_cons_zero, List.set_cons_succ]
    refine wpAnyH_done (by kernel_rfl) ?_ _
    refine NoPanic.normal ?_
    have HE := Lib.hid (hHeld.below (B := w.heap.size) HBC.out.size (by intro i hi; omega))
    obtain ⟨e0, e1, -, -⟩ := H8f.two
    obtain ⟨f0, f1, -, -⟩ := H10f.two
    have HEE := Lib.hid (bel_below HBC.out HE.out)
    go_wp2
    try rw [Exit.noGoto_ret]
    exact bodyPost_ret (v := .tuple #[.agg #[.int .i64 0, .int .i64 1], .int .i64 0, .agg #[.int .i64 0, .int .i64 1], .int .i64 0]) (by simp [results, Tryz.results11, go_sem, e0, e1, f0, f1]) rfl ⟨by rw [HPF.out], HEE.out⟩
  | true =>
    have HPC := Lib.hid (perf_code HBB.out wk week l (by omega) HIN.out)
    have HPA0 : Hid (Pf w wc w.heap.size g8 g10 g12 s cs) := ⟨HBC.out, HWC.out, HG.out, H8.out, H10.out, H12.out⟩
    obtain ⟨gx, hgx⟩ : ∃ gx, goalX s wk l = gx := ⟨_, rfl⟩
    have HGX : Hid (∀ x : SegP, goalE s (((ownP (mayS s) wk l).find? (isT x.id)).getD EvP.none) = gx x) := fun x => by rw [← hgx, own_task]; rfl
    have hF0 := (check_iff.1 HBB.out).fault
    have HFT := Lib.hid (setC_fault HWC.out.c)
    have HOW := Lib.hid (fun W (hs : SetW W s cs) (hE : Evs W A n c l) => powner_c hs A n c l wk hE (by omega) HIN.out)
    have HTI : Hid (∀ x ∈ tasksP s wk week l, In64 x.id) := fun x hx => by
      obtain ⟨e, he, h1, -⟩ := rise_may (List.mem_filter.1 hx).1
      rw [← h1]
      exact (HIN.out e he).id
    have HTU : Hid (SegsUp 0 (tasksP s wk week l) ∧ ∀ x ∈ tasksP s wk week l, 0 ≤ x.fr ∧ x.fr < x.to ∧ x.to ≤ 32054400) := ⟨up_filter (ofWk week) (segsOf_up s wk l).1, fun x hx => (segsOf_up s wk l).2 x (List.mem_filter.1 hx).1⟩
    have HLT := Lib.hid (own_tasks s wk week l)
    have HLF := Lib.hid (own_lost (mayS s) wk week l)
    obtain ⟨L, hL⟩ : ∃ L, ownP (mayS s) wk l = L := ⟨_, rfl⟩
    have HLI : Hid (∀ e ∈ L, e.In) := fun e he => HIN.out e (own_mem (by rw [hL]; exact he))
    obtain ⟨T, hT⟩ : ∃ T, tasksP s wk week l = T := ⟨_, rfl⟩
    rw [hL] at HOW HGX HLT HLF
    rw [hT] at HLT HPC HTI HTU
    rw [hgx] at HPC
    have HTK : Hid (∀ W B q d, SetW W s cs → Evs W B q d L → q ≤ 800 → Calls Tryz.prog 31 #[.agg cs, .slice B q d, .int .i64 wk, .int .i64 week] W fun e w' => ∃ B' q' d', e = .returned (.slice B' q' d') ∧ Below W.heap.size W w' ∧ Segs w' B' q' d' T ∧ q' ≤ 1000) := fun W B q d hs hE hq => by
      rw [← HLT.out]
      exact ptasks_c hs B q d L wk week hE hq HLI.out
    obtain ⟨F, hF⟩ : ∃ F, s.fault = F := ⟨_, rfl⟩
    rw [hF] at HPC hF0 HFT
    obtain ⟨el, hel0⟩ : ∃ el, secsP T = el := ⟨_, rfl⟩
    obtain ⟨e0, he0⟩ : ∃ e0, wrongP (T.map gx) = e0 := ⟨_, rfl⟩
    obtain ⟨xs, hxs⟩ : ∃ xs, goalRats (T.map gx) = xs := ⟨_, rfl⟩
    have hxl : xs.length ≤ T.length := by rw [← hxs]; exact Nat.le_trans (goalRats_len _) (by simp)
    have HEL := Lib.hid hel0
    have HE0 := Lib.hid he0
    have HXS := Lib.hid hxs
    have hels : 0 ≤ el ∧ el ≤ 32054400 := by
      have := secs_bd (hi := 32054400) HTU.out.1 (fun x hx => (HTU.out.2 x hx).2.2) (by omega)
      rw [hel0] at this
      omega
    obtain ⟨Sm, hSm⟩ : ∃ Sm, addR ⟨0, 1, fstC 0 e0⟩ xs = Sm := ⟨_, rfl⟩
    have HSM := Lib.hid hSm
    have HS64 := Lib.hid (show (-9223372036854775808 ≤ Sm.n ∧ Sm.n ≤ 9223372036854775807) ∧ (-9223372036854775808 ≤ Sm.d ∧ Sm.d ≤ 9223372036854775807) by rw [← hSm]; exact addR_64 xs _ ⟨⟨by show (-9223372036854775808 : Int) ≤ 0; decide, by show (0 : Int) ≤ 9223372036854775807; decide⟩, ⟨by show (-9223372036854775808 : Int) ≤ 1; decide, by show (1 : Int) ≤ 9223372036854775807; decide⟩⟩)
    clear hgx hL hT hF hel0 he0 hxs hSm HBC HWC HG H8 H10 H12
    go_wp2_with (refine wpList_exec (o := ⟨some 22, _, _, _, _, _⟩) (by rfl) (exec_load_st _ rfl rfl HPA0.out.h HZ.out) ?_)
    refine (HOW.out _ HPA0.out.c HEV.out).mono ?_
    rintro e w2 ⟨B2, q2, d2, rfl, hb2, hE2, hq2⟩
    have HP2 := Lib.hid (HPA0.out.below hb2)
    have HE2 := Lib.hid hE2
    clear hb2 hE2 HPA0 HEV HOW
    go_wp2_with (refine wpList_exec (o := ⟨some 26, _, _, _, _, _⟩) (by rfl) (exec_load_st _ rfl rfl HP2.out.h HZ.out) ?_)
    refine (HTK.out _ B2 q2 d2 HP2.out.c HE2.out (by omega)).mono ?_
    rintro e w3 ⟨B3, q3, d3, rfl, hb3, hS3, hq3⟩
    have HP3 := Lib.hid (HP2.out.below hb3)
    have HE3 := Lib.hid (HE2.out.below hb3)
    have HS3 := Lib.hid hS3
    clear hb3 hS3 HP2 HE2 HTK
    go_wp2_with fail
    refine (pseconds_c B3 q3 d3 T _ HS3.out (by omega) HTU.out.1 HTU.out.2).mono ?_
    rw [HEL.out]
    rintro e w4 ⟨rfl, hb4⟩
    have HP4 := Lib.hid (HP3.out.below hb4)
    have HE4 := Lib.hid (HE3.out.below hb4)
    have HS4 := Lib.hid (HS3.out.below hb4)
    clear hb4 HP3 HE3 HS3
    have p0 := HP4.out.r12.cell 0 rfl
    have p1 := HP4.out.r12.cell 1 rfl
    have pz := cell_lt p0
    have o15 : g12 < w4.heap.size := HP4.out.r12.size
    go_upto_region 8 with fail
    have HK5 : Hid (Has (w4.alloc (.cells #[.int .i64 0, .int .i64 1, .int .i64 0] 74)) w4.heap.size #[.int .i64 0, .int .i64 1, .int .i64 0]) := Has.new _ _ _ rfl
    have hb5 : Below w4.heap.size w4 (w4.alloc (.cells #[.int .i64 0, .int .i64 1, .int .i64 0] 74)) := bel_alloc (Below.refl _ _) _
    have HB5 := Lib.hid hb5
    have HP5 := Lib.hid (HP4.out.below hb5)
    have HE5 := Lib.hid (HE4.out.below hb5)
    have HS5 := Lib.hid (HS4.out.below hb5)
    clear p0 p1 pz hb5
    generalize w4.alloc (.cells #[.int .i64 0, .int .i64 1, .int .i64 0] 74) = w5 at *
    obtain ⟨g15, hg15⟩ : ∃ g, w4.heap.size = g := ⟨_, rfl⟩
    rw [hg15] at HK5 o15
    rw [hg15]
    have HG15 := Lib.hid hg15
    clear hg15
    go_wp2_with (refine wpList_exec (o := ⟨some 35, _, _, _, _, _⟩) (by rfl) (exec_load_st _ rfl rfl HP5.out.h HZ.out) ?_)
    refine (pgoals_c HP5.out.c B2 q2 d2 L HE5.out (by omega) HLI.out none_in B3 q3 d3 T HS5.out (by omega) gx HGX.out HTI.out).mono ?_
    rw [HE0.out, HXS.out]
    rintro e w6 ⟨C, q6, d6, rfl, hb6, hq6, hR6, hlo6⟩
    subst hq6
    have HK6 := Lib.hid (HK5.out.below hb6)
    have HB6 := Lib.hid (bel_on HB5.out hb6)
    have HR6 := Lib.hid hR6
    have HLO : Hid (∀ ad, C = some ad → ad.block ≠ g15) := fun ad ea => by
      have h1 := hlo6 ad ea
      have h2 := HK5.out.size
      omega
    have HX8 : Hid (xs.length ≤ 1000) := by
      have := HS5.out.2
      show _ ≤ _
      omega
    clear hb6 hR6 hlo6 HK5 HB5 HP5 HE5 HS5 HS4 hxl
    go_wp2_with fail
    refine (sadd_c C d6 xs 0 1 0 e0 g15 _ (by omega) (by omega) HK6.out HR6.out HX8.out HLO.out Sm HSM.out).mono ?_
    rintro e wa ⟨rfl, hka, hca⟩
    have HKA := Lib.hid hka
    have hba := bel_below' HB6.out (hca.below (B := w4.heap.size) HB6.out.size (by intro i hi; have := HG15.out; omega))
    have HPA := Lib.hid (HP4.out.below hba)
    have HEA := Lib.hid (HE4.out.below hba)
    clear hka hca hba HK6 HB6 HR6 HLO HX8 HP4 HE4 HG15
    go_upto_region 9 with fail
    go_wp2_with fail
    refine wp_region_noPanic ?_
    refine wp_region_held_drew (S := fun w' => Chg (fun b => b = g15) wa w') (by kernel_rfl) (Chg.of_below (below_drew (Below.refl _ _))) (fun hHeld => ?_)
    refine wpAnyH_take (i := 0) (oi := ⟨some 42, _, _, _, _, _⟩) (v := ?_) rfl (by kernel_rfl) (by kernel_rfl) (by kernel_rfl) (fun _ _ _ h => h) (Or.inl ⟨by rfl, ?_⟩) hHeld ?_
    rotate_left
    · intro ww hSw
      (try dsimp only at hSw)
      go_simp
      (try with_reducible rfl)
    simp only [Act.put, List.setIfInBounds_toArray, List.set_cons_zero, List.set_cons_succ]
    refine wpAnyH_take (i := 1) (oi := ⟨some 43, _, _, _, _, _⟩) (v := .int .i64 F) rfl (by kernel_rfl) (by kernel_rfl) (by kernel_rfl) (fun _ _ _ h => h) (Or.inl ⟨by rfl, ?_⟩) hHeld ?_
    · intro ww hSw
      (try dsimp only at hSw)
      have qc := (HPA.out.h.chg (by omega) hSw).cell 21 HFT.out
      have qz := cell_lt qc
      go_simp
    simp only [Act.put, List.setIfInBounds_toArray, List.set_cons_zero, List.set_cons_succ]
    refine wpAnyH_take (i := 2) (oi := ⟨some 44, _, _, _, _, _⟩) (v := ?_) rfl (by kernel_rfl) (by kernel_rfl) (by kernel_rfl) (fun _ _ _ h => h) (Or.inl ⟨by rfl, ?_⟩) hHeld ?_
    rotate_left
    · intro ww hSw
      (try dsimp only at hSw)
      go_simp
      (try with_reducible rfl)
    simp only [Act.put, List.setIfInBounds_toArray, List.set_cons_zero, List.set_cons_succ]
    refine wpAnyH_take (i := 3) (oi := ⟨some 45, _, _, _, _, _⟩) (v := ?_) rfl (by kernel_rfl) (by kernel_rfl) (by kernel_rfl) (fun _ _ _ h => h) (Or.inl ⟨by rfl, ?_⟩) hHeld ?_
    rotate_left
    · intro ww hSw
      (try dsimp only at hSw)
      go_simp
      (try with_reducible rfl)
    simp only [Act.put, List.setIfInBounds_toArray, List.set_cons_zero, List.set_cons_succ]
    have HEd := HEA.out.below (below_drew (Below.refl wa.heap.size wa))
    have HKd := HKA.out.drew
    have hcd := hHeld
    clear hHeld
    generalize wa.drew = wd at *
    refine wpAnyH_ready (rs := [4]) (by kernel_rfl) (by simp) ?_
    refine AllReadyH.cons (o := ⟨some 46, _, _, _, _, _⟩) rfl (fun K hK => ?_) AllReadyH.nil
    go_simp
    go_at_call 36
    refine (pfaults_c B2 q2 d2 L week _ HEd (by omega)).mono ?_
    rintro e_r w8 ⟨ql, rfl, hql, hb8⟩
    have hc8 := hcd.onB hb8
    have HK8 := Lib.hid (HKd.below hb8)
    have hq8 : ql ≤ 1000 := by have := HEd.2; rw [← hql]; exact Nat.le_trans (List.length_filter_le _ _) (by omega)
    have HQL := Lib.hid hql
    clear hb8 HKd HEd hcd hql
    go_wp2_with fail
    refine hK.out _ _ ?_ (fun hHeld => ?_)
    · (try dsimp only)
      exact hc8
    clear hK K
    (try simp only [Act.put, List.setIfInBounds_toArray, List.set_cons_zero, List.set_cons_succ])
    have hfq : 0 ≤ F * (ql : Int) ∧ F * (ql : Int) ≤ 86400000 := ⟨Int.mul_nonneg hF0.1 (by omega), by have := Int.mul_le_mul hF0.2 (show (ql : Int) ≤ 1000 by omega) (by omega) (by omega); omega⟩
    have hwf : IntKind.i64.wrap (F * (ql : Int)) = F * (ql : Int) := by rw [IntKind.wrap_i64]; omega
    refine wpAnyH_take (i := 5) (oi := ⟨some 47, _, _, _, _, _⟩) (v := .int .i64 (F * (ql : Int))) rfl (by kernel_rfl) (by kernel_rfl) (by kernel_rfl) (fun _ _ _ h => h) (Or.inl ⟨by rfl, ?_⟩) hHeld ?_
    · intro ww hSw
      (try dsimp only at hSw)
      clear hSw
      go_simp
    simp only [Act.put, List.setIfInBounds_toArray, List.set_cons_zero, List.set_cons_succ]
    have HFQ := Lib.hid hfq
    clear hwf hfq hHeld
    refine wpAnyH_ready (rs := [6]) (by kernel_rfl) (by simp) ?_
    refine AllReadyH.cons (o := ⟨some 48, _, _, _, _, _⟩) rfl (fun K hK => ?_) AllReadyH.nil
    go_simp
    go_at_call 35
    refine (sby_minus Sm.n Sm.d (F * (ql : Int)) Sm.c _ _ _ _ g15 _ (by have := HFQ.out; omega) rfl rfl rfl rfl HS64.out.1 HS64.out.2 HK8.out).mono ?_
    rintro e_r w9 ⟨rfl, HK9, hc9⟩
    have hc99 := Chg.on hc8 hc9
    have HK9h := Lib.hid HK9
    clear HK9 hc9 HK8
    go_wp2_with fail
    refine hK.out _ _ ?_ (fun hHeld => ?_)
    · (try dsimp only)
      exact hc99
    clear hK K
    (try simp only [Act.put, List.setIfInBounds_toArray, List.set_cons_zero, List.set_cons_succ])
    refine wpAnyH_done (by kernel_rfl) ?_ _
    refine NoPanic.normal ?_
    clear hHeld
    have h99 := hc99
    have HP9 := Lib.hid (Pg.of HPA.out h99 (by omega) (by omega) (by omega) (by omega) trivial)
    have HDP : Hid (perfP true s wk week l = if lastC el (fstC (fstC Sm.c (mkR (F * (ql : Int)) 1).c) (minusR Sm.n Sm.d (mkR (F * (ql : Int)) 1).n (mkR (F * (ql : Int)) 1).d).c) (cutN (minusR Sm.n Sm.d (mkR (F * (ql : Int)) 1).n (mkR (F * (ql : Int)) 1).d)) ≠ 0 then ⟨0, 0, el, 0, 0, lastC el (fstC (fstC Sm.c (mkR (F * (ql : Int)) 1).c) (minusR Sm.n Sm.d (mkR (F * (ql : Int)) 1).n (mkR (F * (ql : Int)) 1).d).c) (cutN (minusR Sm.n Sm.d (mkR (F * (ql : Int)) 1).n (mkR (F * (ql : Int)) 1).d))⟩
        else ⟨(cutN (minusR Sm.n Sm.d (mkR (F * (ql : Int)) 1).n (mkR (F * (ql : Int)) 1).d)).n, (cutN (minusR Sm.n Sm.d (mkR (F * (ql : Int)) 1).n (mkR (F * (ql : Int)) 1).d)).d, el, (lastR el (cutN (minusR Sm.n Sm.d (mkR (F * (ql : Int)) 1).n (mkR (F * (ql : Int)) 1).d))).n, (lastR el (cutN (minusR Sm.n Sm.d (mkR (F * (ql : Int)) 1).n (mkR (F * (ql : Int)) 1).d))).d, 0⟩) := by
      show _ = _
      rw [HPC.out, HEL.out, ← HLF.out, HQL.out]
      exact code_is (by rw [HE0.out, HXS.out]; exact HSM.out) rfl rfl rfl
    have HX64 := Lib.hid (minus64' Sm.n Sm.d (mkR (F * (ql : Int)) 1).n (mkR (F * (ql : Int)) 1).d)
    generalize fstC (fstC Sm.c (mkR (F * (ql : Int)) 1).c) (minusR Sm.n Sm.d (mkR (F * (ql : Int)) 1).n (mkR (F * (ql : Int)) 1).d).c = e2 at *
    generalize minusR Sm.n Sm.d (mkR (F * (ql : Int)) 1).n (mkR (F * (ql : Int)) 1).d = X at *
    clear HKA HPA HEA HPC h99 hc99 hc8 HLF HQL HSM HE0 HXS HGX HTI HTU HLI HFT HS64 HEL HFQ
    by_cases hneg : X.n < 0
    · have hneg' : decide (X.n < 0) = true := decide_eq_true hneg
      have HD := Lib.hid (cut_neg hneg ▸ HDP.out)
      have HR64 := Lib.hid (show (-9223372036854775808 ≤ (0 : Int) ∧ (0 : Int) ≤ 9223372036854775807) ∧ (-9223372036854775808 ≤ (1 : Int) ∧ (1 : Int) ≤ 9223372036854775807) from by omega)
      have k0 := HK9h.out.cell 0 rfl
      have k1 := HK9h.out.cell 1 rfl
      have k2 := HK9h.out.frozen 0
      have k3 := HK9h.out.frozen 1
      have kz := cell_lt k0
      have p0 := HP9.out.r12.cell 0 rfl
      have p1 := HP9.out.r12.cell 1 rfl
      have pz := cell_lt p0
      go_upto_region 12 with fail
      have HKY : Hid (Has ((w9.setCell ⟨g15, 0, none⟩ (.int .i64 0)).setCell ⟨g15, 1, none⟩ (.int .i64 1)) g15 #[.int .i64 0, .int .i64 1, .int .i64 e2]) := (HK9h.out.set 0 _).set 1 _
      have HPY : Hid (Pg w ((w9.setCell ⟨g15, 0, none⟩ (.int .i64 0)).setCell ⟨g15, 1, none⟩ (.int .i64 1)) g8 g10 g12) := ⟨bel_set (bel_set HP9.out.b (by show _ ≤ g15; omega) _) (by show _ ≤ g15; omega) _,
        (HP9.out.r8.far (p := ⟨g15, 0, none⟩) (by show g8 ≠ g15; omega) _).far (p := ⟨g15, 1, none⟩) (by show g8 ≠ g15; omega) _, (HP9.out.r10.far (p := ⟨g15, 0, none⟩) (by show g10 ≠ g15; omega) _).far (p := ⟨g15, 1, none⟩) (by show g10 ≠ g15; omega) _,
        (HP9.out.r12.far (p := ⟨g15, 0, none⟩) (by show g12 ≠ g15; omega) _).far (p := ⟨g15, 1, none⟩) (by show g12 ≠ g15; omega) _⟩
      clear k0 k1 k2 k3 kz p0 p1 pz HP9 HK9h HDP HX64 hneg
      generalize (w9.setCell ⟨g15, 0, none⟩ (.int .i64 0)).setCell ⟨g15, 1, none⟩ (.int .i64 1) = wy at *
      have k0 := HKY.out.cell 0 rfl
      have k1 := HKY.out.cell 1 rfl
      have kz := cell_lt k0
      have q0 := HPY.out.r8.cell 0 rfl
      have q1 := HPY.out.r8.cell 1 rfl
      have q2' := HPY.out.r8.frozen 0
      have q3' := HPY.out.r8.frozen 1
      have qz := cell_lt q0
      go_upto_region 13 with fail
      have H8R : Hid (Has ((wy.setCell ⟨g8, 0, none⟩ (.int .i64 0)).setCell ⟨g8, 1, none⟩ (.int .i64 1)) g8 #[.int .i64 0, .int .i64 1]) := (HPY.out.r8.set 0 _).set 1 _
      have H10R : Hid (Has ((wy.setCell ⟨g8, 0, none⟩ (.int .i64 0)).setCell ⟨g8, 1, none⟩ (.int .i64 1)) g10 #[.int .i64 0, .int .i64 0]) := (HPY.out.r10.far (p := ⟨g8, 0, none⟩) (by show g10 ≠ g8; omega) _).far (p := ⟨g8, 1, none⟩) (by show g10 ≠ g8; omega) _
      have HKR : Hid (Has ((wy.setCell ⟨g8, 0, none⟩ (.int .i64 0)).setCell ⟨g8, 1, none⟩ (.int .i64 1)) g15 #[.int .i64 0, .int .i64 1, .int .i64 e2]) := (HKY.out.far (p := ⟨g8, 0, none⟩) (by show g15 ≠ g8; omega) _).far (p := ⟨g8, 1, none⟩) (by show g15 ≠ g8; omega) _
      have HBR : Hid (Below w.heap.size w ((wy.setCell ⟨g8, 0, none⟩ (.int .i64 0)).setCell ⟨g8, 1, none⟩ (.int .i64 1))) := bel_set (bel_set HPY.out.b (by show _ ≤ g8; omega) _) (by show _ ≤ g8; omega) _
      clear k0 k1 kz q0 q1 q2' q3' qz HKY HPY
      generalize (wy.setCell ⟨g8, 0, none⟩ (.int .i64 0)).setCell ⟨g8, 1, none⟩ (.int .i64 1) = wr at *
      by_cases hel : 0 < el
      · have hel' : decide (0 < el) = true := decide_eq_true hel
        obtain ⟨M4, hM4⟩ : ∃ M4, mkR el 1 = M4 := ⟨_, rfl⟩
        obtain ⟨Y, hY⟩ : ∃ Y, divR 0 1 M4.n M4.d = Y := ⟨_, rfl⟩
        obtain ⟨cc, hcc0⟩ : ∃ cc, fstC (fstC e2 M4.c) Y.c = cc := ⟨_, rfl⟩
        have HDC : Hid (perfP true s wk week l = if cc ≠ 0 then ⟨0, 0, el, 0, 0, cc⟩ else ⟨0, 1, el, Y.n, Y.d, 0⟩) := by
          show _ = _
          rw [HD.out]
          have hl1 : lastR el ⟨0, 1, 0⟩ = Y := by unfold lastR; rw [if_pos hel, hM4]; exact hY
          have hl2 : lastC el e2 ⟨0, 1, 0⟩ = cc := by unfold lastC; rw [if_pos hel, hl1, hM4]; exact hcc0
          rw [hl1, hl2]
        have HQ4 := Lib.hid (And.intro hM4 (And.intro hY hcc0))
        clear HD hM4 hY hcc0 hel
        go_wp2_with fail
        refine (sby_div 0 1 el e2 _ cc M4 Y g15 _ (by omega) HQ4.out.1 HQ4.out.2.1 rfl HQ4.out.2.2 HR64.out.1 HR64.out.2 HKR.out).mono ?_
        rintro e_r wx ⟨rfl, hkx, hcx⟩
        have HKX := Lib.hid hkx
        have H8X := Lib.hid (H8R.out.chg (by omega) hcx)
        have H10X := Lib.hid (H10R.out.chg (by omega) hcx)
        have HBX := Lib.hid (bel_below HBR.out (hcx.below (B := w.heap.size) HBR.out.size (by intro i hi; omega)))
        obtain ⟨yn, hyn⟩ : ∃ yn, Y.n = yn := ⟨_, rfl⟩
        obtain ⟨yd, hyd⟩ : ∃ yd, Y.d = yd := ⟨_, rfl⟩
        rw [hyn, hyd] at HKX HDC
        clear hkx hcx HKR H8R H10R HBR HQ4 hyn hyd
        have kc := HKX.out.cell 2 rfl
        have kl := cell_lt kc
        by_cases hcc : cc = 0
        · have hcc' : (cc != 0) = false := by simp [hcc]
          have HDX : Hid (perfP true s wk week l = ⟨0, 1, el, yn, yd, 0⟩) := by show _ = _; rw [HDC.out, if_neg (by simpa using hcc)]
          clear HDC hcc
          go_upto_region 17 with fail
          clear kc kl
          go_wp2_with fail
          refine wp_region_noPanic ?_
          refine wp_region_held_drew (S := fun w' => Chg (fun b => b = g8 ∨ b = g10) wx w') (by kernel_rfl) (Chg.of_below (below_drew (Below.refl _ _))) (fun hHeld => ?_)
          refine wpAnyH_take (i := 1) (oi := ⟨some 70, _, _, _, _, _⟩) (v := ?_) rfl (by kernel_rfl) (by kernel_rfl) (by kernel_rfl) (fun _ _ _ h => h) (Or.inl ⟨by rfl, ?_⟩) hHeld ?_
          rotate_left
          · intro ww hSw
            (try dsimp only at hSw)
            go_simp
            (try with_reducible rfl)
          simp only [Act.put, List.setIfInBounds_toArray, List.set_cons_zero, List.set_cons_succ]
          refine wpAnyH_take (i := 2) (oi := ⟨some 71, _, _, _, _, _⟩) (v := ?_) rfl (by kernel_rfl) (by kernel_rfl) (by kernel_rfl) (fun _ _ _ h => h) (Or.inl ⟨by rfl, ?_⟩) hHeld ?_
          rotate_left
          · intro ww hSw
            (try dsimp only at hSw)
            go_simp
            (try with_reducible rfl)
          simp only [Act.put, List.setIfInBounds_toArray, List.set_cons_zero, List.set_cons_succ]
          refine wpAnyH_take (i := 3) (oi := ⟨some 72, _, _, _, _, _⟩) (v := .agg #[.int .i64 yn, .int .i64 yd]) rfl (by kernel_rfl) (by kernel_rfl) (by kernel_rfl) (fun _ _ _ h => h) (Or.inl ⟨by rfl, ?_⟩) hHeld ?_
          · intro ww hSw
            (try dsimp only at hSw)
            have qc0 := (HKX.out.chg (by omega) hSw).cell 0 rfl
            have qc1 := (HKX.out.chg (by omega) hSw).cell 1 rfl
            have qz := cell_lt qc0
            go_simp
          simp only [Act.put, List.setIfInBounds_toArray, List.set_cons_zero, List.set_cons_succ]
          have k0 := H8X.out.drew.cell 0 rfl
          have k1 := H8X.out.drew.cell 1 rfl
          have kz := cell_lt k0
          refine wpAnyH_ready (rs := [0]) (by kernel_rfl) (by simp) ?_
          refine AllReadyH.cons (o := ⟨some 69, _, _, _, _, _⟩) rfl (fun K hK => ?_) AllReadyH.nil
          go_simp
          refine hK.out _ _ ?_ (fun hHeld => ?_)
          · (try dsimp only)
            exact hHeld
          clear hK K
          (try simp only [Act.put, List.setIfInBounds_toArray, List.set_cons_zero, List.set_cons_succ])
          clear k0 k1 kz
          have HHd := hHeld
          have H8d := H8X.out.drew
          have H10d := H10X.out.drew
          clear hHeld
          generalize wx.drew = wd at *
          have k0 := H8d.cell 0 rfl
          have k1 := H8d.cell 1 rfl
          have k2 := H8d.frozen 0
          have k3 := H8d.frozen 1
          have kz := cell_lt k0
          refine wpAnyH_ready (rs := [4]) (by kernel_rfl) (by simp) ?_
          refine AllReadyH.cons (o := ⟨none, _, _, _, _, _⟩) rfl (fun K hK => ?_) AllReadyH.nil
          go_simp
          refine hK.out _ _ ?_ (fun hHeld => ?_)
          · (try dsimp only)
            exact (HHd.set (p := ⟨g8, 0, none⟩) (.inr (.inl rfl)) _).set (p := ⟨g8, 1, none⟩) (.inr (.inl rfl)) _
          clear hK K
          (try simp only [Act.put, List.setIfInBounds_toArray, List.set_cons_zero, List.set_cons_succ])
          have H8e := (H8d.set 0 (.int .i64 0)).set 1 (.int .i64 1)
          have H10e := (H10d.far (p := ⟨g8, 0, none⟩) (by show g10 ≠ g8; omega) (.int .i64 0)).far (p := ⟨g8, 1, none⟩) (by show g10 ≠ g8; omega) (.int .i64 1)
          clear k0 k1 k2 k3 kz H8d H10d HHd
          generalize (wd.setCell ⟨g8, 0, none⟩ (.int .i64 0)).setCell ⟨g8, 1, none⟩ (.int .i64 1) = we at *
          refine wpAnyH_take (i := 5) (oi := ⟨some 9, _, _, _, _, _⟩) (v := ?_) rfl (by kernel_rfl) (by kernel_rfl) (by kernel_rfl) (fun _ _ _ h => h) (Or.inl ⟨by rfl, ?_⟩) hHeld ?_
          rotate_left
          · intro ww hSw
            (try dsimp only at hSw)
            go_simp
            (try with_reducible rfl)
          simp only [Act.put, List.setIfInBounds_toArray, List.set_cons_zero, List.set_cons_succ]
          have k0 := H10e.cell 0 rfl
          have k1 := H10e.cell 1 rfl
          have k2 := H10e.frozen 0
          have k3 := H10e.frozen 1
          have kz := cell_lt k0
          have HHe := hHeld
          clear hHeld
          refine wpAnyH_ready (rs := [6]) (by kernel_rfl) (by simp) ?_
          refine AllReadyH.cons (o := ⟨none, _, _, _, _, _⟩) rfl (fun K hK => ?_) AllReadyH.nil
          go_simp
          refine hK.out _ _ ?_ (fun hHeld => ?_)
          · (try dsimp only)
            exact (HHe.set (p := ⟨g10, 0, none⟩) (.inr (.inr rfl)) _).set (p := ⟨g10, 1, none⟩) (.inr (.inr rfl)) _
          clear hK K
          (try simp only [Act.put, List.setIfInBounds_toArray, List.set_cons_zero, List.set_cons_succ])
          have H10f := (H10e.set 0 (.int .i64 yn)).set 1 (.int .i64 yd)
          have H8f := (H8e.far (p := ⟨g10, 0, none⟩) (by show g8 ≠ g10; omega) (.int .i64 yn)).far (p := ⟨g10, 1, none⟩) (by show g8 ≠ g10; omega) (.int .i64 yd)
          clear k0 k1 k2 k3 kz H8e H10e HHe
          generalize (we.setCell ⟨g10, 0, none⟩ (.int .i64 yn)).setCell ⟨g10, 1, none⟩ (.int .i64 yd) = wf at *
          refine wpAnyH_take (i := 7) (oi := ⟨some 11, _, _, _, _, _⟩) (v := ?_) rfl (by kernel_rfl) (by kernel_rfl) (by kernel_rfl) (fun _ _ _ h => h) (Or.inl ⟨by rfl, ?_⟩) hHeld ?_
          rotate_left
          · intro ww hSw
            (try dsimp only at hSw)
            go_simp
            (try with_reducible rfl)
          simp only [Act.put, List.setIfInBounds_toArray, List.set_cons_zero, List.set_cons_succ]
          refine wpAnyH_done (by kernel_rfl) ?_ _
          refine NoPanic.normal ?_
          have HE := Lib.hid (hHeld.below (B := w.heap.size) HBX.out.size (by intro i hi; omega))
          obtain ⟨e0, e1, -, -⟩ := H8f.two
          obtain ⟨f0, f1, -, -⟩ := H10f.two
          have HEE := Lib.hid (bel_below HBX.out HE.out)
          go_wp2
          try rw [Exit.noGoto_ret]
          exact bodyPost_ret (v := .tuple #[.agg #[.int .i64 0, .int .i64 1], .int .i64 el, .agg #[.int .i64 yn, .int .i64 yd], .int .i64 0]) (by simp [results, Tryz.results11, go_sem, e0, e1, f0, f1]) rfl ⟨by rw [HDX.out], HEE.out⟩
        · have hcc' : (cc != 0) = true := by simpa using hcc
          have HDX : Hid (perfP true s wk week l = ⟨0, 0, el, 0, 0, cc⟩) := by show _ = _; rw [HDC.out, if_pos hcc]
          clear HDC hcc
          go_upto_region 16 with fail
          clear kc kl
          go_wp2_with fail
          refine wp_region_noPanic ?_
          refine wp_region_held_drew (S := fun w' => Chg (fun b => b = g8 ∨ b = g10) wx w') (by kernel_rfl) (Chg.of_below (below_drew (Below.refl _ _))) (fun hHeld => ?_)
          refine wpAnyH_take (i := 0) (oi := ⟨some 64, _, _, _, _, _⟩) (v := ?_) rfl (by kernel_rfl) (by kernel_rfl) (by kernel_rfl) (fun _ _ _ h => h) (Or.inl ⟨by rfl, ?_⟩) hHeld ?_
          rotate_left
          · intro ww hSw
            (try dsimp only at hSw)
            go_simp
            (try with_reducible rfl)
          simp only [Act.put, List.setIfInBounds_toArray, List.set_cons_zero, List.set_cons_succ]
          refine wpAnyH_take (i := 1) (oi := ⟨some 65, _, _, _, _, _⟩) (v := ?_) rfl (by kernel_rfl) (by kernel_rfl) (by kernel_rfl) (fun _ _ _ h => h) (Or.inl ⟨by rfl, ?_⟩) hHeld ?_
          rotate_left
          · intro ww hSw
            (try dsimp only at hSw)
            go_simp
            (try with_reducible rfl)
          simp only [Act.put, List.setIfInBounds_toArray, List.set_cons_zero, List.set_cons_succ]
          refine wpAnyH_take (i := 2) (oi := ⟨some 66, _, _, _, _, _⟩) (v := ?_) rfl (by kernel_rfl) (by kernel_rfl) (by kernel_rfl) (fun _ _ _ h => h) (Or.inl ⟨by rfl, ?_⟩) hHeld ?_
          rotate_left
          · intro ww hSw
            (try dsimp only at hSw)
            go_simp
            (try with_reducible rfl)
          simp only [Act.put, List.setIfInBounds_toArray, List.set_cons_zero, List.set_cons_succ]
          refine wpAnyH_take (i := 3) (oi := ⟨some 67, _, _, _, _, _⟩) (v := ?_) rfl (by kernel_rfl) (by kernel_rfl) (by kernel_rfl) (fun _ _ _ h => h) (Or.inl ⟨by rfl, ?_⟩) hHeld ?_
          rotate_left
          · intro ww hSw
            (try dsimp only at hSw)
            go_simp
            (try with_reducible rfl)
          simp only [Act.put, List.setIfInBounds_toArray, List.set_cons_zero, List.set_cons_succ]
          refine wpAnyH_take (i := 4) (oi := ⟨some 68, _, _, _, _, _⟩) (v := .int .i64 cc) rfl (by kernel_rfl) (by kernel_rfl) (by kernel_rfl) (fun _ _ _ h => h) (Or.inl ⟨by rfl, ?_⟩) hHeld ?_
          · intro ww hSw
            (try dsimp only at hSw)
            have qc := (HKX.out.chg (by omega) hSw).cell 2 rfl
            have qz := cell_lt qc
            go_simp
          simp only [Act.put, List.setIfInBounds_toArray, List.set_cons_zero, List.set_cons_succ]
          have HHd := hHeld
          have H8d := H8X.out.drew
          have H10d := H10X.out.drew
          clear hHeld
          generalize wx.drew = wd at *
          have k0 := H8d.cell 0 rfl
          have k1 := H8d.cell 1 rfl
          have k2 := H8d.frozen 0
          have k3 := H8d.frozen 1
          have kz := cell_lt k0
          refine wpAnyH_ready (rs := [5]) (by kernel_rfl) (by simp) ?_
          refine AllReadyH.cons (o := ⟨none, _, _, _, _, _⟩) rfl (fun K hK => ?_) AllReadyH.nil
          go_simp
          refine hK.out _ _ ?_ (fun hHeld => ?_)
          · (try dsimp only)
            exact (HHd.set (p := ⟨g8, 0, none⟩) (.inr (.inl rfl)) _).set (p := ⟨g8, 1, none⟩) (.inr (.inl rfl)) _
          clear hK K
          (try simp only [Act.put, List.setIfInBounds_toArray, List.set_cons_zero, List.set_cons_succ])
          have H8e := (H8d.set 0 (.int .i64 0)).set 1 (.int .i64 0)
          have H10e := (H10d.far (p := ⟨g8, 0, none⟩) (by show g10 ≠ g8; omega) (.int .i64 0)).far (p := ⟨g8, 1, none⟩) (by show g10 ≠ g8; omega) (.int .i64 0)
          clear k0 k1 k2 k3 kz H8d H10d HHd
          generalize (wd.setCell ⟨g8, 0, none⟩ (.int .i64 0)).setCell ⟨g8, 1, none⟩ (.int .i64 0) = we at *
          refine wpAnyH_take (i := 6) (oi := ⟨some 9, _, _, _, _, _⟩) (v := ?_) rfl (by kernel_rfl) (by kernel_rfl) (by kernel_rfl) (fun _ _ _ h => h) (Or.inl ⟨by rfl, ?_⟩) hHeld ?_
          rotate_left
          · intro ww hSw
            (try dsimp only at hSw)
            go_simp
            (try with_reducible rfl)
          simp only [Act.put, List.setIfInBounds_toArray, List.set_cons_zero, List.set_cons_succ]
          have k0 := H10e.cell 0 rfl
          have k1 := H10e.cell 1 rfl
          have k2 := H10e.frozen 0
          have k3 := H10e.frozen 1
          have kz := cell_lt k0
          have HHe := hHeld
          clear hHeld
          refine wpAnyH_ready (rs := [7]) (by kernel_rfl) (by simp) ?_
          refine AllReadyH.cons (o := ⟨none, _, _, _, _, _⟩) rfl (fun K hK => ?_) AllReadyH.nil
          go_simp
          refine hK.out _ _ ?_ (fun hHeld => ?_)
          · (try dsimp only)
            exact (HHe.set (p := ⟨g10, 0, none⟩) (.inr (.inr rfl)) _).set (p := ⟨g10, 1, none⟩) (.inr (.inr rfl)) _
          clear hK K
          (try simp only [Act.put, List.setIfInBounds_toArray, List.set_cons_zero, List.set_cons_succ])
          have H10f := (H10e.set 0 (.int .i64 0)).set 1 (.int .i64 0)
          have H8f := (H8e.far (p := ⟨g10, 0, none⟩) (by show g8 ≠ g10; omega) (.int .i64 0)).far (p := ⟨g10, 1, none⟩) (by show g8 ≠ g10; omega) (.int .i64 0)
          clear k0 k1 k2 k3 kz H8e H10e HHe
          generalize (we.setCell ⟨g10, 0, none⟩ (.int .i64 0)).setCell ⟨g10, 1, none⟩ (.int .i64 0) = wf at *
          refine wpAnyH_take (i := 8) (oi := ⟨some 11, _, _, _, _, _⟩) (v := ?_) rfl (by kernel_rfl) (by kernel_rfl) (by kernel_rfl) (fun _ _ _ h => h) (Or.inl ⟨by rfl, ?_⟩) hHeld ?_
          rotate_left
          · intro ww hSw
            (try dsimp only at hSw)
            go_simp
            (try with_reducible rfl)
          simp only [Act.put, List.setIfInBounds_toArray, List.set_cons_zero, List.set_cons_succ]
          refine wpAnyH_done (by kernel_rfl) ?_ _
          refine NoPanic.normal ?_
          have HE := Lib.hid (hHeld.below (B := w.heap.size) HBX.out.size (by intro i hi; omega))
          obtain ⟨e0, e1, -, -⟩ := H8f.two
          obtain ⟨f0, f1, -, -⟩ := H10f.two
          have HEE := Lib.hid (bel_below HBX.out HE.out)
          go_wp2
          try rw [Exit.noGoto_ret]
          exact bodyPost_ret (v := .tuple #[.agg #[.int .i64 0, .int .i64 0], .int .i64 el, .agg #[.int .i64 0, .int .i64 0], .int .i64 cc]) (by simp [results, Tryz.results11, go_sem, e0, e1, f0, f1]) rfl ⟨by rw [HDX.out], HEE.out⟩
      · have hel' : decide (0 < el) = false := decide_eq_false hel
        have HDC : Hid (perfP true s wk week l = if e2 ≠ 0 then ⟨0, 0, el, 0, 0, e2⟩ else ⟨0, 1, el, 0, 1, 0⟩) := by
          show _ = _
          rw [HD.out]
          have hl1 : lastR el ⟨0, 1, 0⟩ = ⟨0, 1, 0⟩ := by unfold lastR; rw [if_neg hel]
          have hl2 : lastC el e2 ⟨0, 1, 0⟩ = e2 := by unfold lastC; rw [if_neg hel]
          rw [hl1, hl2]
        have HKX := HKR
        have H8X := H8R
        have H10X := H10R
        have HBX := HBR
        obtain ⟨cc, hcc0⟩ : ∃ cc, e2 = cc := ⟨_, rfl⟩
        rw [hcc0] at HKX HDC
        clear HKR H8R H10R HBR HD hcc0 hel
        have kc := HKX.out.cell 2 rfl
        have kl := cell_lt kc
        by_cases hcc : cc = 0
        · have hcc' : (cc != 0) = false := by simp [hcc]
          have HDX : Hid (perfP true s wk week l = ⟨0, 1, el, 0, 1, 0⟩) := by show _ = _; rw [HDC.out, if_neg (by simpa using hcc)]
          clear HDC hcc
          go_upto_region 17 with fail
          clear kc kl
          go_wp2_with fail
          refine wp_region_noPanic ?_
          refine wp_region_held_drew (S := fun w' => Chg (fun b => b = g8 ∨ b = g10) wr w') (by kernel_rfl) (Chg.of_below (below_drew (Below.refl _ _))) (fun hHeld => ?_)
          refine wpAnyH_take (i := 1) (oi := ⟨some 70, _, _, _, _, _⟩) (v := ?_) rfl (by kernel_rfl) (by kernel_rfl) (by kernel_rfl) (fun _ _ _ h => h) (Or.inl ⟨by rfl, ?_⟩) hHeld ?_
          rotate_left
          · intro ww hSw
            (try dsimp only at hSw)
            go_simp
            (try with_reducible rfl)
          simp only [Act.put, List.setIfInBounds_toArray, List.set_cons_zero, List.set_cons_succ]
          refine wpAnyH_take (i := 2) (oi := ⟨some 71, _, _, _, _, _⟩) (v := ?_) rfl (by kernel_rfl) (by kernel_rfl) (by kernel_rfl) (fun _ _ _ h => h) (Or.inl ⟨by rfl, ?_⟩) hHeld ?_
          rotate_left
          · intro ww hSw
            (try dsimp only at hSw)
            go_simp
            (try with_reducible rfl)
          simp only [Act.put, List.setIfInBounds_toArray, List.set_cons_zero, List.set_cons_succ]
          refine wpAnyH_take (i := 3) (oi := ⟨some 72, _, _, _, _, _⟩) (v := .agg #[.int .i64 0, .int .i64 1]) rfl (by kernel_rfl) (by kernel_rfl) (by kernel_rfl) (fun _ _ _ h => h) (Or.inl ⟨by rfl, ?_⟩) hHeld ?_
          · intro ww hSw
            (try dsimp only at hSw)
            have qc0 := (HKX.out.chg (by omega) hSw).cell 0 rfl
            have qc1 := (HKX.out.chg (by omega) hSw).cell 1 rfl
            have qz := cell_lt qc0
            go_simp
          simp only [Act.put, List.setIfInBounds_toArray, List.set_cons_zero, List.set_cons_succ]
          have k0 := H8X.out.drew.cell 0 rfl
          have k1 := H8X.out.drew.cell 1 rfl
          have kz := cell_lt k0
          refine wpAnyH_ready (rs := [0]) (by kernel_rfl) (by simp) ?_
          refine AllReadyH.cons (o := ⟨some 69, _, _, _, _, _⟩) rfl (fun K hK => ?_) AllReadyH.nil
          go_simp
          refine hK.out _ _ ?_ (fun hHeld => ?_)
          · (try dsimp only)
            exact hHeld
          clear hK K
          (try simp only [Act.put, List.setIfInBounds_toArray, List.set_cons_zero, List.set_cons_succ])
          clear k0 k1 kz
          have HHd := hHeld
          have H8d := H8X.out.drew
          have H10d := H10X.out.drew
          clear hHeld
          generalize wr.drew = wd at *
          have k0 := H8d.cell 0 rfl
          have k1 := H8d.cell 1 rfl
          have k2 := H8d.frozen 0
          have k3 := H8d.frozen 1
          have kz := cell_lt k0
          refine wpAnyH_ready (rs := [4]) (by kernel_rfl) (by simp) ?_
          refine AllReadyH.cons (o := ⟨none, _, _, _, _, _⟩) rfl (fun K hK => ?_) AllReadyH.nil
          go_simp
          refine hK.out _ _ ?_ (fun hHeld => ?_)
          · (try dsimp only)
            exact (HHd.set (p := ⟨g8, 0, none⟩) (.inr (.inl rfl)) _).set (p := ⟨g8, 1, none⟩) (.inr (.inl rfl)) _
          clear hK K
          (try simp only [Act.put, List.setIfInBounds_toArray, List.set_cons_zero, List.set_cons_succ])
          have H8e := (H8d.set 0 (.int .i64 0)).set 1 (.int .i64 1)
          have H10e := (H10d.far (p := ⟨g8, 0, none⟩) (by show g10 ≠ g8; omega) (.int .i64 0)).far (p := ⟨g8, 1, none⟩) (by show g10 ≠ g8; omega) (.int .i64 1)
          clear k0 k1 k2 k3 kz H8d H10d HHd
          generalize (wd.setCell ⟨g8, 0, none⟩ (.int .i64 0)).setCell ⟨g8, 1, none⟩ (.int .i64 1) = we at *
          refine wpAnyH_take (i := 5) (oi := ⟨some 9, _, _, _, _, _⟩) (v := ?_) rfl (by kernel_rfl) (by kernel_rfl) (by kernel_rfl) (fun _ _ _ h => h) (Or.inl ⟨by rfl, ?_⟩) hHeld ?_
          rotate_left
          · intro ww hSw
            (try dsimp only at hSw)
            go_simp
            (try with_reducible rfl)
          simp only [Act.put, List.setIfInBounds_toArray, List.set_cons_zero, List.set_cons_succ]
          have k0 := H10e.cell 0 rfl
          have k1 := H10e.cell 1 rfl
          have k2 := H10e.frozen 0
          have k3 := H10e.frozen 1
          have kz := cell_lt k0
          have HHe := hHeld
          clear hHeld
          refine wpAnyH_ready (rs := [6]) (by kernel_rfl) (by simp) ?_
          refine AllReadyH.cons (o := ⟨none, _, _, _, _, _⟩) rfl (fun K hK => ?_) AllReadyH.nil
          go_simp
          refine hK.out _ _ ?_ (fun hHeld => ?_)
          · (try dsimp only)
            exact (HHe.set (p := ⟨g10, 0, none⟩) (.inr (.inr rfl)) _).set (p := ⟨g10, 1, none⟩) (.inr (.inr rfl)) _
          clear hK K
          (try simp only [Act.put, List.setIfInBounds_toArray, List.set_cons_zero, List.set_cons_succ])
          have H10f := (H10e.set 0 (.int .i64 0)).set 1 (.int .i64 1)
          have H8f := (H8e.far (p := ⟨g10, 0, none⟩) (by show g8 ≠ g10; omega) (.int .i64 0)).far (p := ⟨g10, 1, none⟩) (by show g8 ≠ g10; omega) (.int .i64 1)
          clear k0 k1 k2 k3 kz H8e H10e HHe
          generalize (we.setCell ⟨g10, 0, none⟩ (.int .i64 0)).setCell ⟨g10, 1, none⟩ (.int .i64 1) = wf at *
          refine wpAnyH_take (i := 7) (oi := ⟨some 11, _, _, _, _, _⟩) (v := ?_) rfl (by kernel_rfl) (by kernel_rfl) (by kernel_rfl) (fun _ _ _ h => h) (Or.inl ⟨by rfl, ?_⟩) hHeld ?_
          rotate_left
          · intro ww hSw
            (try dsimp only at hSw)
            go_simp
            (try with_reducible rfl)
          simp only [Act.put, List.setIfInBounds_toArray, List.set_cons_zero, List.set_cons_succ]
          refine wpAnyH_done (by kernel_rfl) ?_ _
          refine NoPanic.normal ?_
          have HE := Lib.hid (hHeld.below (B := w.heap.size) HBX.out.size (by intro i hi; omega))
          obtain ⟨e0, e1, -, -⟩ := H8f.two
          obtain ⟨f0, f1, -, -⟩ := H10f.two
          have HEE := Lib.hid (bel_below HBX.out HE.out)
          go_wp2
          try rw [Exit.noGoto_ret]
          exact bodyPost_ret (v := .tuple #[.agg #[.int .i64 0, .int .i64 1], .int .i64 el, .agg #[.int .i64 0, .int .i64 1], .int .i64 0]) (by simp [results, Tryz.results11, go_sem, e0, e1, f0, f1]) rfl ⟨by rw [HDX.out], HEE.out⟩
        · have hcc' : (cc != 0) = true := by simpa using hcc
          have HDX : Hid (perfP true s wk week l = ⟨0, 0, el, 0, 0, cc⟩) := by show _ = _; rw [HDC.out, if_pos hcc]
          clear HDC hcc
          go_upto_region 16 with fail
          clear kc kl
          go_wp2_with fail
          refine wp_region_noPanic ?_
          refine wp_region_held_drew (S := fun w' => Chg (fun b => b = g8 ∨ b = g10) wr w') (by kernel_rfl) (Chg.of_below (below_drew (Below.refl _ _))) (fun hHeld => ?_)
          refine wpAnyH_take (i := 0) (oi := ⟨some 64, _, _, _, _, _⟩) (v := ?_) rfl (by kernel_rfl) (by kernel_rfl) (by kernel_rfl) (fun _ _ _ h => h) (Or.inl ⟨by rfl, ?_⟩) hHeld ?_
          rotate_left
          · intro ww hSw
            (try dsimp only at hSw)
            go_simp
            (try with_reducible rfl)
          simp only [Act.put, List.setIfInBounds_toArray, List.set_cons_zero, List.set_cons_succ]
          refine wpAnyH_take (i := 1) (oi := ⟨some 65, _, _, _, _, _⟩) (v := ?_) rfl (by kernel_rfl) (by kernel_rfl) (by kernel_rfl) (fun _ _ _ h => h) (Or.inl ⟨by rfl, ?_⟩) hHeld ?_
          rotate_left
          · intro ww hSw
            (try dsimp only at hSw)
            go_simp
            (try with_reducible rfl)
          simp only [Act.put, List.setIfInBounds_toArray, List.set_cons_zero, List.set_cons_succ]
          refine wpAnyH_take (i := 2) (oi := ⟨some 66, _, _, _, _, _⟩) (v := ?_) rfl (by kernel_rfl) (by kernel_rfl) (by kernel_rfl) (fun _ _ _ h => h) (Or.inl ⟨by rfl, ?_⟩) hHeld ?_
          rotate_left
          · intro ww hSw
            (try dsimp only at hSw)
            go_simp
            (try with_reducible rfl)
          simp only [Act.put, List.setIfInBounds_toArray, List.set_cons_zero, List.set_cons_succ]
          refine wpAnyH_take (i := 3) (oi := ⟨some 67, _, _, _, _, _⟩) (v := ?_) rfl (by kernel_rfl) (by kernel_rfl) (by kernel_rfl) (fun _ _ _ h => h) (Or.inl ⟨by rfl, ?_⟩) hHeld ?_
          rotate_left
          · intro ww hSw
            (try dsimp only at hSw)
            go_simp
            (try with_reducible rfl)
          simp only [Act.put, List.setIfInBounds_toArray, List.set_cons_zero, List.set_cons_succ]
          refine wpAnyH_take (i := 4) (oi := ⟨some 68, _, _, _, _, _⟩) (v := .int .i64 cc) rfl (by kernel_rfl) (by kernel_rfl) (by kernel_rfl) (fun _ _ _ h => h) (Or.inl ⟨by rfl, ?_⟩) hHeld ?_
          · intro ww hSw
            (try dsimp only at hSw)
            have qc := (HKX.out.chg (by omega) hSw).cell 2 rfl
            have qz := cell_lt qc
            go_simp
          simp only [Act.put, List.setIfInBounds_toArray, List.set_cons_zero, List.set_cons_succ]
          have HHd := hHeld
          have H8d := H8X.out.drew
          have H10d := H10X.out.drew
          clear hHeld
          generalize wr.drew = wd at *
          have k0 := H8d.cell 0 rfl
          have k1 := H8d.cell 1 rfl
          have k2 := H8d.frozen 0
          have k3 := H8d.frozen 1
          have kz := cell_lt k0
          refine wpAnyH_ready (rs := [5]) (by kernel_rfl) (by simp) ?_
          refine AllReadyH.cons (o := ⟨none, _, _, _, _, _⟩) rfl (fun K hK => ?_) AllReadyH.nil
          go_simp
          refine hK.out _ _ ?_ (fun hHeld => ?_)
          · (try dsimp only)
            exact (HHd.set (p := ⟨g8, 0, none⟩) (.inr (.inl rfl)) _).set (p := ⟨g8, 1, none⟩) (.inr (.inl rfl)) _
          clear hK K
          (try simp only [Act.put, List.setIfInBounds_toArray, List.set_cons_zero, List.set_cons_succ])
          have H8e := (H8d.set 0 (.int .i64 0)).set 1 (.int .i64 0)
          have H10e := (H10d.far (p := ⟨g8, 0, none⟩) (by show g10 ≠ g8; omega) (.int .i64 0)).far (p := ⟨g8, 1, none⟩) (by show g10 ≠ g8; omega) (.int .i64 0)
          clear k0 k1 k2 k3 kz H8d H10d HHd
          generalize (wd.setCell ⟨g8, 0, none⟩ (.int .i64 0)).setCell ⟨g8, 1, none⟩ (.int .i64 0) = we at *
          refine wpAnyH_take (i := 6) (oi := ⟨some 9, _, _, _, _, _⟩) (v := ?_) rfl (by kernel_rfl) (by kernel_rfl) (by kernel_rfl) (fun _ _ _ h => h) (Or.inl ⟨by rfl, ?_⟩) hHeld ?_
          rotate_left
          · intro ww hSw
            (try dsimp only at hSw)
            go_simp
            (try with_reducible rfl)
          simp only [Act.put, List.setIfInBounds_toArray, List.set_cons_zero, List.set_cons_succ]
          have k0 := H10e.cell 0 rfl
          have k1 := H10e.cell 1 rfl
          have k2 := H10e.frozen 0
          have k3 := H10e.frozen 1
          have kz := cell_lt k0
          have HHe := hHeld
          clear hHeld
          refine wpAnyH_ready (rs := [7]) (by kernel_rfl) (by simp) ?_
          refine AllReadyH.cons (o := ⟨none, _, _, _, _, _⟩) rfl (fun K hK => ?_) AllReadyH.nil
          go_simp
          refine hK.out _ _ ?_ (fun hHeld => ?_)
          · (try dsimp only)
            exact (HHe.set (p := ⟨g10, 0, none⟩) (.inr (.inr rfl)) _).set (p := ⟨g10, 1, none⟩) (.inr (.inr rfl)) _
          clear hK K
          (try simp only [Act.put, List.setIfInBounds_toArray, List.set_cons_zero, List.set_cons_succ])
          have H10f := (H10e.set 0 (.int .i64 0)).set 1 (.int .i64 0)
          have H8f := (H8e.far (p := ⟨g10, 0, none⟩) (by show g8 ≠ g10; omega) (.int .i64 0)).far (p := ⟨g10, 1, none⟩) (by show g8 ≠ g10; omega) (.int .i64 0)
          clear k0 k1 k2 k3 kz H8e H10e HHe
          generalize (we.setCell ⟨g10, 0, none⟩ (.int .i64 0)).setCell ⟨g10, 1, none⟩ (.int .i64 0) = wf at *
          refine wpAnyH_take (i := 8) (oi := ⟨some 11, _, _, _, _, _⟩) (v := ?_) rfl (by kernel_rfl) (by kernel_rfl) (by kernel_rfl) (fun _ _ _ h => h) (Or.inl ⟨by rfl, ?_⟩) hHeld ?_
          rotate_left
          · intro ww hSw
            (try dsimp only at hSw)
            go_simp
            (try with_reducible rfl)
          simp only [Act.put, List.setIfInBounds_toArray, List.set_cons_zero, List.set_cons_succ]
          refine wpAnyH_done (by kernel_rfl) ?_ _
          refine NoPanic.normal ?_
          have HE := Lib.hid (hHeld.below (B := w.heap.size) HBX.out.size (by intro i hi; omega))
          obtain ⟨e0, e1, -, -⟩ := H8f.two
          obtain ⟨f0, f1, -, -⟩ := H10f.two
          have HEE := Lib.hid (bel_below HBX.out HE.out)
          go_wp2
          try rw [Exit.noGoto_ret]
          exact bodyPost_ret (v := .tuple #[.agg #[.int .i64 0, .int .i64 0], .int .i64 el, .agg #[.int .i64 0, .int .i64 0], .int .i64 cc]) (by simp [results, Tryz.results11, go_sem, e0, e1, f0, f1]) rfl ⟨by rw [HDX.out], HEE.out⟩
    · have hneg' : decide (X.n < 0) = false := decide_eq_false hneg
      have HD := Lib.hid (cut_pos hneg ▸ HDP.out)
      have HR64 := Lib.hid HX64.out
      obtain ⟨xn, xd, xc⟩ := X
      simp only at HR64 HD hneg hneg' HK9h
      have k0 := HK9h.out.cell 0 rfl
      have kz := cell_lt k0
      go_upto_region 12 with fail
      have HKY := HK9h
      have HPY := HP9
      clear k0 kz HP9 HK9h HDP HX64 hneg
      have k0 := HKY.out.cell 0 rfl
      have k1 := HKY.out.cell 1 rfl
      have kz := cell_lt k0
      have q0 := HPY.out.r8.cell 0 rfl
      have q1 := HPY.out.r8.cell 1 rfl
      have q2' := HPY.out.r8.frozen 0
      have q3' := HPY.out.r8.frozen 1
      have qz := cell_lt q0
      go_upto_region 13 with fail
      have H8R : Hid (Has ((w9.setCell ⟨g8, 0, none⟩ (.int .i64 xn)).setCell ⟨g8, 1, none⟩ (.int .i64 xd)) g8 #[.int .i64 xn, .int .i64 xd]) := (HPY.out.r8.set 0 _).set 1 _
      have H10R : Hid (Has ((w9.setCell ⟨g8, 0, none⟩ (.int .i64 xn)).setCell ⟨g8, 1, none⟩ (.int .i64 xd)) g10 #[.int .i64 0, .int .i64 0]) := (HPY.out.r10.far (p := ⟨g8, 0, none⟩) (by show g10 ≠ g8; omega) _).far (p := ⟨g8, 1, none⟩) (by show g10 ≠ g8; omega) _
      have HKR : Hid (Has ((w9.setCell ⟨g8, 0, none⟩ (.int .i64 xn)).setCell ⟨g8, 1, none⟩ (.int .i64 xd)) g15 #[.int .i64 xn, .int .i64 xd, .int .i64 e2]) := (HKY.out.far (p := ⟨g8, 0, none⟩) (by show g15 ≠ g8; omega) _).far (p := ⟨g8, 1, none⟩) (by show g15 ≠ g8; omega) _
      have HBR : Hid (Below w.heap.size w ((w9.setCell ⟨g8, 0, none⟩ (.int .i64 xn)).setCell ⟨g8, 1, none⟩ (.int .i64 xd))) := bel_set (bel_set HPY.out.b (by show _ ≤ g8; omega) _) (by show _ ≤ g8; omega) _
      clear k0 k1 kz q0 q1 q2' q3' qz HKY HPY
      generalize (w9.setCell ⟨g8, 0, none⟩ (.int .i64 xn)).setCell ⟨g8, 1, none⟩ (.int .i64 xd) = wr at *
      by_cases hel : 0 < el
      · have hel' : decide (0 < el) = true := decide_eq_true hel
        obtain ⟨M4, hM4⟩ : ∃ M4, mkR el 1 = M4 := ⟨_, rfl⟩
        obtain ⟨Y, hY⟩ : ∃ Y, divR xn xd M4.n M4.d = Y := ⟨_, rfl⟩
        obtain ⟨cc, hcc0⟩ : ∃ cc, fstC (fstC e2 M4.c) Y.c = cc := ⟨_, rfl⟩
        have HDC : Hid (perfP true s wk week l = if cc ≠ 0 then ⟨0, 0, el, 0, 0, cc⟩ else ⟨xn, xd, el, Y.n, Y.d, 0⟩) := by
          show _ = _
          rw [HD.out]
          have hl1 : lastR el ⟨xn, xd, 0⟩ = Y := by unfold lastR; rw [if_pos hel, hM4]; exact hY
          have hl2 : lastC el e2 ⟨xn, xd, 0⟩ = cc := by unfold lastC; rw [if_pos hel, hl1, hM4]; exact hcc0
          rw [hl1, hl2]
        have HQ4 := Lib.hid (And.intro hM4 (And.intro hY hcc0))
        clear HD hM4 hY hcc0 hel
        go_wp2_with fail
        refine (sby_div xn xd el e2 _ cc M4 Y g15 _ (by omega) HQ4.out.1 HQ4.out.2.1 rfl HQ4.out.2.2 HR64.out.1 HR64.out.2 HKR.out).mono ?_
        rintro e_r wx ⟨rfl, hkx, hcx⟩
        have HKX := Lib.hid hkx
        have H8X := Lib.hid (H8R.out.chg (by omega) hcx)
        have H10X := Lib.hid (H10R.out.chg (by omega) hcx)
        have HBX := Lib.hid (bel_below HBR.out (hcx.below (B := w.heap.size) HBR.out.size (by intro i hi; omega)))
        obtain ⟨yn, hyn⟩ : ∃ yn, Y.n = yn := ⟨_, rfl⟩
        obtain ⟨yd, hyd⟩ : ∃ yd, Y.d = yd := ⟨_, rfl⟩
        rw [hyn, hyd] at HKX HDC
        clear hkx hcx HKR H8R H10R HBR HQ4 hyn hyd
        have kc := HKX.out.cell 2 rfl
        have kl := cell_lt kc
        by_cases hcc : cc = 0
        · have hcc' : (cc != 0) = false := by simp [hcc]
          have HDX : Hid (perfP true s wk week l = ⟨xn, xd, el, yn, yd, 0⟩) := by show _ = _; rw [HDC.out, if_neg (by simpa using hcc)]
          clear HDC hcc
          go_upto_region 17 with fail
          clear kc kl
          go_wp2_with fail
          refine wp_region_noPanic ?_
          refine wp_region_held_drew (S := fun w' => Chg (fun b => b = g8 ∨ b = g10) wx w') (by kernel_rfl) (Chg.of_below (below_drew (Below.refl _ _))) (fun hHeld => ?_)
          refine wpAnyH_take (i := 1) (oi := ⟨some 70, _, _, _, _, _⟩) (v := ?_) rfl (by kernel_rfl) (by kernel_rfl) (by kernel_rfl) (fun _ _ _ h => h) (Or.inl ⟨by rfl, ?_⟩) hHeld ?_
          rotate_left
          · intro ww hSw
            (try dsimp only at hSw)
            go_simp
            (try with_reducible rfl)
          simp only [Act.put, List.setIfInBounds_toArray, List.set_cons_zero, List.set_cons_succ]
          refine wpAnyH_take (i := 2) (oi := ⟨some 71, _, _, _, _, _⟩) (v := ?_) rfl (by kernel_rfl) (by kernel_rfl) (by kernel_rfl) (fun _ _ _ h => h) (Or.inl ⟨by rfl, ?_⟩) hHeld ?_
          rotate_left
          · intro ww hSw
            (try dsimp only at hSw)
            go_simp
            (try with_reducible rfl)
          simp only [Act.put, List.setIfInBounds_toArray, List.set_cons_zero, List.set_cons_succ]
          refine wpAnyH_take (i := 3) (oi := ⟨some 72, _, _, _, _, _⟩) (v := .agg #[.int .i64 yn, .int .i64 yd]) rfl (by kernel_rfl) (by kernel_rfl) (by kernel_rfl) (fun _ _ _ h => h) (Or.inl ⟨by rfl, ?_⟩) hHeld ?_
          · intro ww hSw
            (try dsimp only at hSw)
            have qc0 := (HKX.out.chg (by omega) hSw).cell 0 rfl
            have qc1 := (HKX.out.chg (by omega) hSw).cell 1 rfl
            have qz := cell_lt qc0
            go_simp
          simp only [Act.put, List.setIfInBounds_toArray, List.set_cons_zero, List.set_cons_succ]
          have k0 := H8X.out.drew.cell 0 rfl
          have k1 := H8X.out.drew.cell 1 rfl
          have kz := cell_lt k0
          refine wpAnyH_ready (rs := [0]) (by kernel_rfl) (by simp) ?_
          refine AllReadyH.cons (o := ⟨some 69, _, _, _, _, _⟩) rfl (fun K hK => ?_) AllReadyH.nil
          go_simp
          refine hK.out _ _ ?_ (fun hHeld => ?_)
          · (try dsimp only)
            exact hHeld
          clear hK K
          (try simp only [Act.put, List.setIfInBounds_toArray, List.set_cons_zero, List.set_cons_succ])
          clear k0 k1 kz
          have HHd := hHeld
          have H8d := H8X.out.drew
          have H10d := H10X.out.drew
          clear hHeld
          generalize wx.drew = wd at *
          have k0 := H8d.cell 0 rfl
          have k1 := H8d.cell 1 rfl
          have k2 := H8d.frozen 0
          have k3 := H8d.frozen 1
          have kz := cell_lt k0
          refine wpAnyH_ready (rs := [4]) (by kernel_rfl) (by simp) ?_
          refine AllReadyH.cons (o := ⟨none, _, _, _, _, _⟩) rfl (fun K hK => ?_) AllReadyH.nil
          go_simp
          refine hK.out _ _ ?_ (fun hHeld => ?_)
          · (try dsimp only)
            exact (HHd.set (p := ⟨g8, 0, none⟩) (.inr (.inl rfl)) _).set (p := ⟨g8, 1, none⟩) (.inr (.inl rfl)) _
          clear hK K
          (try simp only [Act.put, List.setIfInBounds_toArray, List.set_cons_zero, List.set_cons_succ])
          have H8e := (H8d.set 0 (.int .i64 xn)).set 1 (.int .i64 xd)
          have H10e := (H10d.far (p := ⟨g8, 0, none⟩) (by show g10 ≠ g8; omega) (.int .i64 xn)).far (p := ⟨g8, 1, none⟩) (by show g10 ≠ g8; omega) (.int .i64 xd)
          clear k0 k1 k2 k3 kz H8d H10d HHd
          generalize (wd.setCell ⟨g8, 0, none⟩ (.int .i64 xn)).setCell ⟨g8, 1, none⟩ (.int .i64 xd) = we at *
          refine wpAnyH_take (i := 5) (oi := ⟨some 9, _, _, _, _, _⟩) (v := ?_) rfl (by kernel_rfl) (by kernel_rfl) (by kernel_rfl) (fun _ _ _ h => h) (Or.inl ⟨by rfl, ?_⟩) hHeld ?_
          rotate_left
          · intro ww hSw
            (try dsimp only at hSw)
            go_simp
            (try with_reducible rfl)
          simp only [Act.put, List.setIfInBounds_toArray, List.set_cons_zero, List.set_cons_succ]
          have k0 := H10e.cell 0 rfl
          have k1 := H10e.cell 1 rfl
          have k2 := H10e.frozen 0
          have k3 := H10e.frozen 1
          have kz := cell_lt k0
          have HHe := hHeld
          clear hHeld
          refine wpAnyH_ready (rs := [6]) (by kernel_rfl) (by simp) ?_
          refine AllReadyH.cons (o := ⟨none, _, _, _, _, _⟩) rfl (fun K hK => ?_) AllReadyH.nil
          go_simp
          refine hK.out _ _ ?_ (fun hHeld => ?_)
          · (try dsimp only)
            exact (HHe.set (p := ⟨g10, 0, none⟩) (.inr (.inr rfl)) _).set (p := ⟨g10, 1, none⟩) (.inr (.inr rfl)) _
          clear hK K
          (try simp only [Act.put, List.setIfInBounds_toArray, List.set_cons_zero, List.set_cons_succ])
          have H10f := (H10e.set 0 (.int .i64 yn)).set 1 (.int .i64 yd)
          have H8f := (H8e.far (p := ⟨g10, 0, none⟩) (by show g8 ≠ g10; omega) (.int .i64 yn)).far (p := ⟨g10, 1, none⟩) (by show g8 ≠ g10; omega) (.int .i64 yd)
          clear k0 k1 k2 k3 kz H8e H10e HHe
          generalize (we.setCell ⟨g10, 0, none⟩ (.int .i64 yn)).setCell ⟨g10, 1, none⟩ (.int .i64 yd) = wf at *
          refine wpAnyH_take (i := 7) (oi := ⟨some 11, _, _, _, _, _⟩) (v := ?_) rfl (by kernel_rfl) (by kernel_rfl) (by kernel_rfl) (fun _ _ _ h => h) (Or.inl ⟨by rfl, ?_⟩) hHeld ?_
          rotate_left
          · intro ww hSw
            (try dsimp only at hSw)
            go_simp
            (try with_reducible rfl)
          simp only [Act.put, List.setIfInBounds_toArray, List.set_cons_zero, List.set_cons_succ]
          refine wpAnyH_done (by kernel_rfl) ?_ _
          refine NoPanic.normal ?_
          have HE := Lib.hid (hHeld.below (B := w.heap.size) HBX.out.size (by intro i hi; omega))
          obtain ⟨e0, e1, -, -⟩ := H8f.two
          obtain ⟨f0, f1, -, -⟩ := H10f.two
          have HEE := Lib.hid (bel_below HBX.out HE.out)
          go_wp2
          try rw [Exit.noGoto_ret]
          exact bodyPost_ret (v := .tuple #[.agg #[.int .i64 xn, .int .i64 xd], .int .i64 el, .agg #[.int .i64 yn, .int .i64 yd], .int .i64 0]) (by simp [results, Tryz.results11, go_sem, e0, e1, f0, f1]) rfl ⟨by rw [HDX.out], HEE.out⟩
        · have hcc' : (cc != 0) = true := by simpa using hcc
          have HDX : Hid (perfP true s wk week l = ⟨0, 0, el, 0, 0, cc⟩) := by show _ = _; rw [HDC.out, if_pos hcc]
          clear HDC hcc
          go_upto_region 16 with fail
          clear kc kl
          go_wp2_with fail
          refine wp_region_noPanic ?_
          refine wp_region_held_drew (S := fun w' => Chg (fun b => b = g8 ∨ b = g10) wx w') (by kernel_rfl) (Chg.of_below (below_drew (Below.refl _ _))) (fun hHeld => ?_)
          refine wpAnyH_take (i := 0) (oi := ⟨some 64, _, _, _, _, _⟩) (v := ?_) rfl (by kernel_rfl) (by kernel_rfl) (by kernel_rfl) (fun _ _ _ h => h) (Or.inl ⟨by rfl, ?_⟩) hHeld ?_
          rotate_left
          · intro ww hSw
            (try dsimp only at hSw)
            go_simp
            (try with_reducible rfl)
          simp only [Act.put, List.setIfInBounds_toArray, List.set_cons_zero, List.set_cons_succ]
          refine wpAnyH_take (i := 1) (oi := ⟨some 65, _, _, _, _, _⟩) (v := ?_) rfl (by kernel_rfl) (by kernel_rfl) (by kernel_rfl) (fun _ _ _ h => h) (Or.inl ⟨by rfl, ?_⟩) hHeld ?_
          rotate_left
          · intro ww hSw
            (try dsimp only at hSw)
            go_simp
            (try with_reducible rfl)
          simp only [Act.put, List.setIfInBounds_toArray, List.set_cons_zero, List.set_cons_succ]
          refine wpAnyH_take (i := 2) (oi := ⟨some 66, _, _, _, _, _⟩) (v := ?_) rfl (by kernel_rfl) (by kernel_rfl) (by kernel_rfl) (fun _ _ _ h => h) (Or.inl ⟨by rfl, ?_⟩) hHeld ?_
          rotate_left
          · intro ww hSw
            (try dsimp only at hSw)
            go_simp
            (try with_reducible rfl)
          simp only [Act.put, List.setIfInBounds_toArray, List.set_cons_zero, List.set_cons_succ]
          refine wpAnyH_take (i := 3) (oi := ⟨some 67, _, _, _, _, _⟩) (v := ?_) rfl (by kernel_rfl) (by kernel_rfl) (by kernel_rfl) (fun _ _ _ h => h) (Or.inl ⟨by rfl, ?_⟩) hHeld ?_
          rotate_left
          · intro ww hSw
            (try dsimp only at hSw)
            go_simp
            (try with_reducible rfl)
          simp only [Act.put, List.setIfInBounds_toArray, List.set_cons_zero, List.set_cons_succ]
          refine wpAnyH_take (i := 4) (oi := ⟨some 68, _, _, _, _, _⟩) (v := .int .i64 cc) rfl (by kernel_rfl) (by kernel_rfl) (by kernel_rfl) (fun _ _ _ h => h) (Or.inl ⟨by rfl, ?_⟩) hHeld ?_
          · intro ww hSw
            (try dsimp only at hSw)
            have qc := (HKX.out.chg (by omega) hSw).cell 2 rfl
            have qz := cell_lt qc
            go_simp
          simp only [Act.put, List.setIfInBounds_toArray, List.set_cons_zero, List.set_cons_succ]
          have HHd := hHeld
          have H8d := H8X.out.drew
          have H10d := H10X.out.drew
          clear hHeld
          generalize wx.drew = wd at *
          have k0 := H8d.cell 0 rfl
          have k1 := H8d.cell 1 rfl
          have k2 := H8d.frozen 0
          have k3 := H8d.frozen 1
          have kz := cell_lt k0
          refine wpAnyH_ready (rs := [5]) (by kernel_rfl) (by simp) ?_
          refine AllReadyH.cons (o := ⟨none, _, _, _, _, _⟩) rfl (fun K hK => ?_) AllReadyH.nil
          go_simp
          refine hK.out _ _ ?_ (fun hHeld => ?_)
          · (try dsimp only)
            exact (HHd.set (p := ⟨g8, 0, none⟩) (.inr (.inl rfl)) _).set (p := ⟨g8, 1, none⟩) (.inr (.inl rfl)) _
          clear hK K
          (try simp only [Act.put, List.setIfInBounds_toArray, List.set_cons_zero, List.set_cons_succ])
          have H8e := (H8d.set 0 (.int .i64 0)).set 1 (.int .i64 0)
          have H10e := (H10d.far (p := ⟨g8, 0, none⟩) (by show g10 ≠ g8; omega) (.int .i64 0)).far (p := ⟨g8, 1, none⟩) (by show g10 ≠ g8; omega) (.int .i64 0)
          clear k0 k1 k2 k3 kz H8d H10d HHd
          generalize (wd.setCell ⟨g8, 0, none⟩ (.int .i64 0)).setCell ⟨g8, 1, none⟩ (.int .i64 0) = we at *
          refine wpAnyH_take (i := 6) (oi := ⟨some 9, _, _, _, _, _⟩) (v := ?_) rfl (by kernel_rfl) (by kernel_rfl) (by kernel_rfl) (fun _ _ _ h => h) (Or.inl ⟨by rfl, ?_⟩) hHeld ?_
          rotate_left
          · intro ww hSw
            (try dsimp only at hSw)
            go_simp
            (try with_reducible rfl)
          simp only [Act.put, List.setIfInBounds_toArray, List.set_cons_zero, List.set_cons_succ]
          have k0 := H10e.cell 0 rfl
          have k1 := H10e.cell 1 rfl
          have k2 := H10e.frozen 0
          have k3 := H10e.frozen 1
          have kz := cell_lt k0
          have HHe := hHeld
          clear hHeld
          refine wpAnyH_ready (rs := [7]) (by kernel_rfl) (by simp) ?_
          refine AllReadyH.cons (o := ⟨none, _, _, _, _, _⟩) rfl (fun K hK => ?_) AllReadyH.nil
          go_simp
          refine hK.out _ _ ?_ (fun hHeld => ?_)
          · (try dsimp only)
            exact (HHe.set (p := ⟨g10, 0, none⟩) (.inr (.inr rfl)) _).set (p := ⟨g10, 1, none⟩) (.inr (.inr rfl)) _
          clear hK K
          (try simp only [Act.put, List.setIfInBounds_toArray, List.set_cons_zero, List.set_cons_succ])
          have H10f := (H10e.set 0 (.int .i64 0)).set 1 (.int .i64 0)
          have H8f := (H8e.far (p := ⟨g10, 0, none⟩) (by show g8 ≠ g10; omega) (.int .i64 0)).far (p := ⟨g10, 1, none⟩) (by show g8 ≠ g10; omega) (.int .i64 0)
          clear k0 k1 k2 k3 kz H8e H10e HHe
          generalize (we.setCell ⟨g10, 0, none⟩ (.int .i64 0)).setCell ⟨g10, 1, none⟩ (.int .i64 0) = wf at *
          refine wpAnyH_take (i := 8) (oi := ⟨some 11, _, _, _, _, _⟩) (v := ?_) rfl (by kernel_rfl) (by kernel_rfl) (by kernel_rfl) (fun _ _ _ h => h) (Or.inl ⟨by rfl, ?_⟩) hHeld ?_
          rotate_left
          · intro ww hSw
            (try dsimp only at hSw)
            go_simp
            (try with_reducible rfl)
          simp only [Act.put, List.setIfInBounds_toArray, List.set_cons_zero, List.set_cons_succ]
          refine wpAnyH_done (by kernel_rfl) ?_ _
          refine NoPanic.normal ?_
          have HE := Lib.hid (hHeld.below (B := w.heap.size) HBX.out.size (by intro i hi; omega))
          obtain ⟨e0, e1, -, -⟩ := H8f.two
          obtain ⟨f0, f1, -, -⟩ := H10f.two
          have HEE := Lib.hid (bel_below HBX.out HE.out)
          go_wp2
          try rw [Exit.noGoto_ret]
          exact bodyPost_ret (v := .tuple #[.agg #[.int .i64 0, .int .i64 0], .int .i64 el, .agg #[.int .i64 0, .int .i64 0], .int .i64 cc]) (by simp [results, Tryz.results11, go_sem, e0, e1, f0, f1]) rfl ⟨by rw [HDX.out], HEE.out⟩
      · have hel' : decide (0 < el) = false := decide_eq_false hel
        have HDC : Hid (perfP true s wk week l = if e2 ≠ 0 then ⟨0, 0, el, 0, 0, e2⟩ else ⟨xn, xd, el, xn, xd, 0⟩) := by
          show _ = _
          rw [HD.out]
          have hl1 : lastR el ⟨xn, xd, 0⟩ = ⟨xn, xd, 0⟩ := by unfold lastR; rw [if_neg hel]
          have hl2 : lastC el e2 ⟨xn, xd, 0⟩ = e2 := by unfold lastC; rw [if_neg hel]
          rw [hl1, hl2]
        have HKX := HKR
        have H8X := H8R
        have H10X := H10R
        have HBX := HBR
        obtain ⟨cc, hcc0⟩ : ∃ cc, e2 = cc := ⟨_, rfl⟩
        rw [hcc0] at HKX HDC
        clear HKR H8R H10R HBR HD hcc0 hel
        have kc := HKX.out.cell 2 rfl
        have kl := cell_lt kc
        by_cases hcc : cc = 0
        · have hcc' : (cc != 0) = false := by simp [hcc]
          have HDX : Hid (perfP true s wk week l = ⟨xn, xd, el, xn, xd, 0⟩) := by show _ = _; rw [HDC.out, if_neg (by simpa using hcc)]
          clear HDC hcc
          go_upto_region 17 with fail
          clear kc kl
          go_wp2_with fail
          refine wp_region_noPanic ?_
          refine wp_region_held_drew (S := fun w' => Chg (fun b => b = g8 ∨ b = g10) wr w') (by kernel_rfl) (Chg.of_below (below_drew (Below.refl _ _))) (fun hHeld => ?_)
          refine wpAnyH_take (i := 1) (oi := ⟨some 70, _, _, _, _, _⟩) (v := ?_) rfl (by kernel_rfl) (by kernel_rfl) (by kernel_rfl) (fun _ _ _ h => h) (Or.inl ⟨by rfl, ?_⟩) hHeld ?_
          rotate_left
          · intro ww hSw
            (try dsimp only at hSw)
            go_simp
            (try with_reducible rfl)
          simp only [Act.put, List.setIfInBounds_toArray, List.set_cons_zero, List.set_cons_succ]
          refine wpAnyH_take (i := 2) (oi := ⟨some 71, _, _, _, _, _⟩) (v := ?_) rfl (by kernel_rfl) (by kernel_rfl) (by kernel_rfl) (fun _ _ _ h => h) (Or.inl ⟨by rfl, ?_⟩) hHeld ?_
          rotate_left
          · intro ww hSw
            (try dsimp only at hSw)
            go_simp
            (try with_reducible rfl)
          simp only [Act.put, List.setIfInBounds_toArray, List.set_cons_zero, List.set_cons_succ]
          refine wpAnyH_take (i := 3) (oi := ⟨some 72, _, _, _, _, _⟩) (v := .agg #[.int .i64 xn, .int .i64 xd]) rfl (by kernel_rfl) (by kernel_rfl) (by kernel_rfl) (fun _ _ _ h => h) (Or.inl ⟨by rfl, ?_⟩) hHeld ?_
          · intro ww hSw
            (try dsimp only at hSw)
            have qc0 := (HKX.out.chg (by omega) hSw).cell 0 rfl
            have qc1 := (HKX.out.chg (by omega) hSw).cell 1 rfl
            have qz := cell_lt qc0
            go_simp
          simp only [Act.put, List.setIfInBounds_toArray, List.set_cons_zero, List.set_cons_succ]
          have k0 := H8X.out.drew.cell 0 rfl
          have k1 := H8X.out.drew.cell 1 rfl
          have kz := cell_lt k0
          refine wpAnyH_ready (rs := [0]) (by kernel_rfl) (by simp) ?_
          refine AllReadyH.cons (o := ⟨some 69, _, _, _, _, _⟩) rfl (fun K hK => ?_) AllReadyH.nil
          go_simp
          refine hK.out _ _ ?_ (fun hHeld => ?_)
          · (try dsimp only)
            exact hHeld
          clear hK K
          (try simp only [Act.put, List.setIfInBounds_toArray, List.set_cons_zero, List.set_cons_succ])
          clear k0 k1 kz
          have HHd := hHeld
          have H8d := H8X.out.drew
          have H10d := H10X.out.drew
          clear hHeld
          generalize wr.drew = wd at *
          have k0 := H8d.cell 0 rfl
          have k1 := H8d.cell 1 rfl
          have k2 := H8d.frozen 0
          have k3 := H8d.frozen 1
          have kz := cell_lt k0
          refine wpAnyH_ready (rs := [4]) (by kernel_rfl) (by simp) ?_
          refine AllReadyH.cons (o := ⟨none, _, _, _, _, _⟩) rfl (fun K hK => ?_) AllReadyH.nil
          go_simp
          refine hK.out _ _ ?_ (fun hHeld => ?_)
          · (try dsimp only)
            exact (HHd.set (p := ⟨g8, 0, none⟩) (.inr (.inl rfl)) _).set (p := ⟨g8, 1, none⟩) (.inr (.inl rfl)) _
          clear hK K
          (try simp only [Act.put, List.setIfInBounds_toArray, List.set_cons_zero, List.set_cons_succ])
          have H8e := (H8d.set 0 (.int .i64 xn)).set 1 (.int .i64 xd)
          have H10e := (H10d.far (p := ⟨g8, 0, none⟩) (by show g10 ≠ g8; omega) (.int .i64 xn)).far (p := ⟨g8, 1, none⟩) (by show g10 ≠ g8; omega) (.int .i64 xd)
          clear k0 k1 k2 k3 kz H8d H10d HHd
          generalize (wd.setCell ⟨g8, 0, none⟩ (.int .i64 xn)).setCell ⟨g8, 1, none⟩ (.int .i64 xd) = we at *
          refine wpAnyH_take (i := 5) (oi := ⟨some 9, _, _, _, _, _⟩) (v := ?_) rfl (by kernel_rfl) (by kernel_rfl) (by kernel_rfl) (fun _ _ _ h => h) (Or.inl ⟨by rfl, ?_⟩) hHeld ?_
          rotate_left
          · intro ww hSw
            (try dsimp only at hSw)
            go_simp
            (try with_reducible rfl)
          simp only [Act.put, List.setIfInBounds_toArray, List.set_cons_zero, List.set_cons_succ]
          have k0 := H10e.cell 0 rfl
          have k1 := H10e.cell 1 rfl
          have k2 := H10e.frozen 0
          have k3 := H10e.frozen 1
          have kz := cell_lt k0
          have HHe := hHeld
          clear hHeld
          refine wpAnyH_ready (rs := [6]) (by kernel_rfl) (by simp) ?_
          refine AllReadyH.cons (o := ⟨none, _, _, _, _, _⟩) rfl (fun K hK => ?_) AllReadyH.nil
          go_simp
          refine hK.out _ _ ?_ (fun hHeld => ?_)
          · (try dsimp only)
            exact (HHe.set (p := ⟨g10, 0, none⟩) (.inr (.inr rfl)) _).set (p := ⟨g10, 1, none⟩) (.inr (.inr rfl)) _
          clear hK K
          (try simp only [Act.put, List.setIfInBounds_toArray, List.set_cons_zero, List.set_cons_succ])
          have H10f := (H10e.set 0 (.int .i64 xn)).set 1 (.int .i64 xd)
          have H8f := (H8e.far (p := ⟨g10, 0, none⟩) (by show g8 ≠ g10; omega) (.int .i64 xn)).far (p := ⟨g10, 1, none⟩) (by show g8 ≠ g10; omega) (.int .i64 xd)
          clear k0 k1 k2 k3 kz H8e H10e HHe
          generalize (we.setCell ⟨g10, 0, none⟩ (.int .i64 xn)).setCell ⟨g10, 1, none⟩ (.int .i64 xd) = wf at *
          refine wpAnyH_take (i := 7) (oi := ⟨some 11, _, _, _, _, _⟩) (v := ?_) rfl (by kernel_rfl) (by kernel_rfl) (by kernel_rfl) (fun _ _ _ h => h) (Or.inl ⟨by rfl, ?_⟩) hHeld ?_
          rotate_left
          · intro ww hSw
            (try dsimp only at hSw)
            go_simp
            (try with_reducible rfl)
          simp only [Act.put, List.setIfInBounds_toArray, List.set_cons_zero, List.set_cons_succ]
          refine wpAnyH_done (by kernel_rfl) ?_ _
          refine NoPanic.normal ?_
          have HE := Lib.hid (hHeld.below (B := w.heap.size) HBX.out.size (by intro i hi; omega))
          obtain ⟨e0, e1, -, -⟩ := H8f.two
          obtain ⟨f0, f1, -, -⟩ := H10f.two
          have HEE := Lib.hid (bel_below HBX.out HE.out)
          go_wp2
          try rw [Exit.noGoto_ret]
          exact bodyPost_ret (v := .tuple #[.agg #[.int .i64 xn, .int .i64 xd], .int .i64 el, .agg #[.int .i64 xn, .int .i64 xd], .int .i64 0]) (by simp [results, Tryz.results11, go_sem, e0, e1, f0, f1]) rfl ⟨by rw [HDX.out], HEE.out⟩
        · have hcc' : (cc != 0) = true := by simpa using hcc
          have HDX : Hid (perfP true s wk week l = ⟨0, 0, el, 0, 0, cc⟩) := by show _ = _; rw [HDC.out, if_pos hcc]
          clear HDC hcc
          go_upto_region 16 with fail
          clear kc kl
          go_wp2_with fail
          refine wp_region_noPanic ?_
          refine wp_region_held_drew (S := fun w' => Chg (fun b => b = g8 ∨ b = g10) wr w') (by kernel_rfl) (Chg.of_below (below_drew (Below.refl _ _))) (fun hHeld => ?_)
          refine wpAnyH_take (i := 0) (oi := ⟨some 64, _, _, _, _, _⟩) (v := ?_) rfl (by kernel_rfl) (by kernel_rfl) (by kernel_rfl) (fun _ _ _ h => h) (Or.inl ⟨by rfl, ?_⟩) hHeld ?_
          rotate_left
          · intro ww hSw
            (try dsimp only at hSw)
            go_simp
            (try with_reducible rfl)
          simp only [Act.put, List.setIfInBounds_toArray, List.set_cons_zero, List.set_cons_succ]
          refine wpAnyH_take (i := 1) (oi := ⟨some 65, _, _, _, _, _⟩) (v := ?_) rfl (by kernel_rfl) (by kernel_rfl) (by kernel_rfl) (fun _ _ _ h => h) (Or.inl ⟨by rfl, ?_⟩) hHeld ?_
          rotate_left
          · intro ww hSw
            (try dsimp only at hSw)
            go_simp
            (try with_reducible rfl)
          simp only [Act.put, List.setIfInBounds_toArray, List.set_cons_zero, List.set_cons_succ]
          refine wpAnyH_take (i := 2) (oi := ⟨some 66, _, _, _, _, _⟩) (v := ?_) rfl (by kernel_rfl) (by kernel_rfl) (by kernel_rfl) (fun _ _ _ h => h) (Or.inl ⟨by rfl, ?_⟩) hHeld ?_
          rotate_left
          · intro ww hSw
            (try dsimp only at hSw)
            go_simp
            (try with_reducible rfl)
          simp only [Act.put, List.setIfInBounds_toArray, List.set_cons_zero, List.set_cons_succ]
          refine wpAnyH_take (i := 3) (oi := ⟨some 67, _, _, _, _, _⟩) (v := ?_) rfl (by kernel_rfl) (by kernel_rfl) (by kernel_rfl) (fun _ _ _ h => h) (Or.inl ⟨by rfl, ?_⟩) hHeld ?_
          rotate_left
          · intro ww hSw
            (try dsimp only at hSw)
            go_simp
            (try with_reducible rfl)
          simp only [Act.put, List.setIfInBounds_toArray, List.set_cons_zero, List.set_cons_succ]
          refine wpAnyH_take (i := 4) (oi := ⟨some 68, _, _, _, _, _⟩) (v := .int .i64 cc) rfl (by kernel_rfl) (by kernel_rfl) (by kernel_rfl) (fun _ _ _ h => h) (Or.inl ⟨by rfl, ?_⟩) hHeld ?_
          · intro ww hSw
            (try dsimp only at hSw)
            have qc := (HKX.out.chg (by omega) hSw).cell 2 rfl
            have qz := cell_lt qc
            go_simp
          simp only [Act.put, List.setIfInBounds_toArray, List.set_cons_zero, List.set_cons_succ]
          have HHd := hHeld
          have H8d := H8X.out.drew
          have H10d := H10X.out.drew
          clear hHeld
          generalize wr.drew = wd at *
          have k0 := H8d.cell 0 rfl
          have k1 := H8d.cell 1 rfl
          have k2 := H8d.frozen 0
          have k3 := H8d.frozen 1
          have kz := cell_lt k0
          refine wpAnyH_ready (rs := [5]) (by kernel_rfl) (by simp) ?_
          refine AllReadyH.cons (o := ⟨none, _, _, _, _, _⟩) rfl (fun K hK => ?_) AllReadyH.nil
          go_simp
          refine hK.out _ _ ?_ (fun hHeld => ?_)
          · (try dsimp only)
            exact (HHd.set (p := ⟨g8, 0, none⟩) (.inr (.inl rfl)) _).set (p := ⟨g8, 1, none⟩) (.inr (.inl rfl)) _
          clear hK K
          (try simp only [Act.put, List.setIfInBounds_toArray, List.set_cons_zero, List.set_cons_succ])
          have H8e := (H8d.set 0 (.int .i64 0)).set 1 (.int .i64 0)
          have H10e := (H10d.far (p := ⟨g8, 0, none⟩) (by show g10 ≠ g8; omega) (.int .i64 0)).far (p := ⟨g8, 1, none⟩) (by show g10 ≠ g8; omega) (.int .i64 0)
          clear k0 k1 k2 k3 kz H8d H10d HHd
          generalize (wd.setCell ⟨g8, 0, none⟩ (.int .i64 0)).setCell ⟨g8, 1, none⟩ (.int .i64 0) = we at *
          refine wpAnyH_take (i := 6) (oi := ⟨some 9, _, _, _, _, _⟩) (v := ?_) rfl (by kernel_rfl) (by kernel_rfl) (by kernel_rfl) (fun _ _ _ h => h) (Or.inl ⟨by rfl, ?_⟩) hHeld ?_
          rotate_left
          · intro ww hSw
            (try dsimp only at hSw)
            go_simp
            (try with_reducible rfl)
          simp only [Act.put, List.setIfInBounds_toArray, List.set_cons_zero, List.set_cons_succ]
          have k0 := H10e.cell 0 rfl
          have k1 := H10e.cell 1 rfl
          have k2 := H10e.frozen 0
          have k3 := H10e.frozen 1
          have kz := cell_lt k0
          have HHe := hHeld
          clear hHeld
          refine wpAnyH_ready (rs := [7]) (by kernel_rfl) (by simp) ?_
          refine AllReadyH.cons (o := ⟨none, _, _, _, _, _⟩) rfl (fun K hK => ?_) AllReadyH.nil
          go_simp
          refine hK.out _ _ ?_ (fun hHeld => ?_)
          · (try dsimp only)
            exact (HHe.set (p := ⟨g10, 0, none⟩) (.inr (.inr rfl)) _).set (p := ⟨g10, 1, none⟩) (.inr (.inr rfl)) _
          clear hK K
          (try simp only [Act.put, List.setIfInBounds_toArray, List.set_cons_zero, List.set_cons_succ])
          have H10f := (H10e.set 0 (.int .i64 0)).set 1 (.int .i64 0)
          have H8f := (H8e.far (p := ⟨g10, 0, none⟩) (by show g8 ≠ g10; omega) (.int .i64 0)).far (p := ⟨g10, 1, none⟩) (by show g8 ≠ g10; omega) (.int .i64 0)
          clear k0 k1 k2 k3 kz H8e H10e HHe
          generalize (we.setCell ⟨g10, 0, none⟩ (.int .i64 0)).setCell ⟨g10, 1, none⟩ (.int .i64 0) = wf at *
          refine wpAnyH_take (i := 8) (oi := ⟨some 11, _, _, _, _, _⟩) (v := ?_) rfl (by kernel_rfl) (by kernel_rfl) (by kernel_rfl) (fun _ _ _ h => h) (Or.inl ⟨by rfl, ?_⟩) hHeld ?_
          rotate_left
          · intro ww hSw
            (try dsimp only at hSw)
            go_simp
            (try with_reducible rfl)
          simp only [Act.put, List.setIfInBounds_toArray, List.set_cons_zero, List.set_cons_succ]
          refine wpAnyH_done (by kernel_rfl) ?_ _
          refine NoPanic.normal ?_
          have HE := Lib.hid (hHeld.below (B := w.heap.size) HBX.out.size (by intro i hi; omega))
          obtain ⟨e0, e1, -, -⟩ := H8f.two
          obtain ⟨f0, f1, -, -⟩ := H10f.two
          have HEE := Lib.hid (bel_below HBX.out HE.out)
          go_wp2
          try rw [Exit.noGoto_ret]
          exact bodyPost_ret (v := .tuple #[.agg #[.int .i64 0, .int .i64 0], .int .i64 el, .agg #[.int .i64 0, .int .i64 0], .int .i64 cc]) (by simp [results, Tryz.results11, go_sem, e0, e1, f0, f1]) rfl ⟨by rw [HDX.out], HEE.out⟩
end Go.Proofs.YtpgncbhahocmbaaGreat
