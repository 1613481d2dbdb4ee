/-
  Package fixes' Touched.
-/
import Derived.Test.YtedkhjbnjkcemaaZbb
namespace Go.Proofs.Ytedkhjbnjkcemaa
open Go.RowKit
set_option linter.unusedVariables false
set_option linter.unusedSimpArgs false
set_option maxRecDepth 20000

theorem upK_iff {u c : Int} {f : KeyP → Bool} {x : EvP} {q : KeyP} : upK f x.wk (touchP u c x.tm).1 (manyW u c x) q = true ↔ f q = true ∨ InK u c x q := by
  have := touch_bd u c x.tm
  unfold upK InK manyW
  rw [Bool.or_eq_true, decide_eq_true_eq]
  constructor
  · rintro (h | h)
    · exact .inl h
    · refine .inr ⟨h.1, h.2.1, ?_⟩; omega
  · rintro (h | h)
    · exact .inl h
    · refine .inr ⟨h.1, h.2.1, ?_⟩; omega
theorem inK_in {u c : Int} {e : EvP} (he : e.In) {q : KeyP} (h : InK u c e q) : q.In := by
  have := touch_bd u c e.tm
  obtain ⟨h1, h2, h3⟩ := h
  refine ⟨by rw [h1]; exact he.wk, ?_⟩
  omega
theorem touched_eq {u c : Int} {mv : List EvP} (hmv : ∀ e ∈ mv, e.In) {ks : List KeyP} {f : KeyP → Bool} (hr : RisK ks) (hin : ∀ q ∈ ks, KeyP.In q) (hm : ∀ q : KeyP, q.In → (q ∈ ks ↔ f q = true)) (hf : ∀ q, f q = true ↔ ∃ e ∈ mv, InK u c e q) : ks = touchedK u c mv :=
  touched_is hr fun q => by
    constructor
    · intro h; exact (hf q).1 ((hm q (hin q h)).1 h)
    · rintro ⟨e, he, hq⟩
      exact (hm q (inK_in (hmv e he) hq)).2 ((hf q).2 ⟨e, he, hq⟩)
theorem sheet_start2 {W : World} {cs : Array Value} {A : Option Addr} {n c : Nat} {l : List EvP} (h : Evs W A n c l) (hnc : n ≤ c ∧ c ≤ 9223372036854775807) (hs : cs.size = 23) (x : EvP) {w0 : World} (hb : Below W.heap.size W w0) {g : Nat} (hg : W.heap.size ≤ g) (hh : Has w0 g (shC cs (.slice A n c) x (.slice none 0 0))) :
    Shee w0 w0 g cs x A n c l none 0 0 [] := by
  refine Shee.start hh hs (h.below hb) hnc fun hn0 a ha e => ?_
  obtain ⟨b, off, e2⟩ := h.form hn0
  have h' := h
  rw [e2] at h' ha
  injection ha with ha
  subst ha
  have := cell_lt (h'.cell hn0 (j := 0) (by omega))
  simp only at *
  omega
/-- What Touched answers. -/
def GotK (W : World) (R : List KeyP) (e : Ending) (w' : World) : Prop := ∃ A' m c', e = .returned (.slice A' m c') ∧ Kys w' A' m c' R ∧ m ≤ 12 ∧ Below W.heap.size W w'
set_option maxHeartbeats 8000000 in
theorem touched_0 {cs : Array Value} {pl u d0 : Int} {nE nC nG nR : Nat} (hs : SetS cs pl nE nC nG nR) (h8 : cs[8]? = some (.int .i64 u)) (h9 : cs[9]? = some (.int .i64 d0)) (A : Option Addr) (n c : Nat) (l : List EvP) (k : Int) (x : EvP) (W : World) (h : Evs W A n c l) (hnc : n ≤ c ∧ c ≤ 9223372036854775807) (hn : n ≤ 500) (hi : x.In) (hl : ∀ e ∈ l, e.In) (h1 : k ≠ 1) (h2 : k ≠ 2) (h3 : k ≠ 3) :
    Calls Try.prog 16 #[.agg cs, .slice A n c, .agg (fixC k x)] W (GotK W (touchedK u d0 (movedE l k x))) := by
  have eg9 : ∀ args w, (callFunc 29 args).run Try.prog w = .ok (.enter 29 args) w := enters_of Try.func29 (by kernel_rfl) rfl
  have hs23 := hs.1
  have hB1 : Below W.heap.size W ((W.alloc (.cells cs 30)).alloc (.cells (fixC k x) 35)) := bel_alloc (bel_alloc (Below.refl _ _) _) _
  have hC1 : Has ((W.alloc (.cells cs 30)).alloc (.cells (fixC k x) 35)) W.heap.size cs := (Has.new _ _ _ rfl).alloc _
  have hF1 : Has ((W.alloc (.cells cs 30)).alloc (.cells (fixC k x) 35)) (W.heap.size + 1) (fixC k x) := Has.new _ _ _ (by simp)
  have HO := Lib.hid (shC_one hs.2 A none n c 0 0 x)
  have HZ := Lib.hid (sh_size (E := .slice A n c) (x := x) (M := .slice none 0 0) hs23)
  have HH := Lib.hid hs
  have HC := Lib.hid hC1
  have HB := Lib.hid hB1
  have HS23 := Lib.hid hs23
  have HN := Lib.hid h.2
  have HE := Lib.hid h
  have HL := Lib.hid (fix_loadE hF1)
  have H8 := Lib.hid h8
  have H9 := Lib.hid h9
  have HI := Lib.hid hi
  have Q0 := Lib.hid ((hF1.alloc (.cells (shC cs (.slice A n c) x (.slice none 0 0)) 62)).cell 0 (v := .int .i64 k) rfl)
  obtain ⟨R, hR⟩ : ∃ R, movedE l k x = R := ⟨_, rfl⟩
  rw [hR]
  have HR := Lib.hid hR
  clear hC1 hF1 hB1 h hs hs23 hR h8 h9 hi
  generalize fixC k x = fx at *
  have HLL := Lib.hid hl
  clear hl
  go_enter Try.func16, Try.ntmps16
  go_upto_region 1 with fail
  refine wp_region_lit ?_
  refine wpList_load_has (by rfl) _ rfl W.heap.size rfl cs HC.out HS23.out ?_
  iterate 2 (refine wpList_step (fun K hK => ?_); go_simp; refine hK _ _ ?_; clear hK K)
  (try simp only [Act.put, List.setIfInBounds_toArray, List.set_cons_zero, List.set_cons_succ])
  refine wpList_exec (o := ⟨some 17, _, _, _, _, _⟩) rfl (exec_load_at _ rfl rfl HL.out) ?_
  (try simp only [Act.put, List.setIfInBounds_toArray, List.set_cons_zero, List.set_cons_succ])
  refine wpList_build_sh HS23.out rfl rfl rfl rfl rfl ?_
  (try simp only [Act.put, List.setIfInBounds_toArray, List.set_cons_zero, List.set_cons_succ])
  refine wpList_laid_sh (shC cs (.slice A n c) x (.slice none 0 0)) 7 _ _ rfl rfl rfl rfl rfl rfl rfl rfl HZ.out HO.out ?_
  refine wpList_nil ?_
  have q0 := Q0.out
  have qz := cell_lt q0
  obtain ⟨wa, hwa⟩ : ∃ wa, ((W.alloc (.cells cs 30)).alloc (.cells fx 35)).alloc (.cells (shC cs (.slice A n c) x (.slice none 0 0)) 62) = wa := ⟨_, rfl⟩
  rw [hwa] at q0 qz ⊢
  have HWA := Lib.hid hwa
  have HSA : Hid (wa.heap.size = W.heap.size + 3) := Lib.hid (by rw [← hwa]; simp)
  clear hwa Q0
  go_wp2_with fail
  refine (steps_0 k h1 h2 h3 _).mono ?_
  rintro e w2 ⟨rfl, rfl⟩
  obtain rfl : R = [] := by rw [← HR.out]; simp [movedE, h1, h2, h3]
  obtain ⟨w0, hw0⟩ : ∃ w0, wa = w0 := ⟨_, rfl⟩
  have HC0 : Hid (Has w0 W.heap.size cs) := by show Has _ _ _; rw [← hw0, ← HWA.out]; exact HC.out.alloc _
  have HB0 : Hid (Below W.heap.size W w0) := by show Below _ _ _; rw [← hw0, ← HWA.out]; exact bel_alloc HB.out _
  have HS0 := Lib.hid (sheet_start2 HE.out hnc HS23.out x HB0.out (g := W.heap.size + 2) (by omega) (by rw [← hw0, ← HWA.out]; exact Has.new _ _ _ (by simp)))
  rw [hw0]
  clear hw0 HC HB HE HL q0 qz HWA HSA HO HZ HR h1 h2 h3
  go_wp2_with fail
  refine wp_loop_rounds 1 ?_
  rw [rounds_succ]
  go_wp2_with fail
  have hmm := @run_makeMap Try.prog
  have p35 := ((HS0.out.h.alloc (.map #[] 0)).alloc (.cells #[.map (some w0.heap.size)] 66)).cell 35 (sh_M HS0.out.hs)
  have pz := cell_lt p35
  have hC5 := HS0.out.has HC0.out (by omega)
  have hB5 := HS0.out.bel HB0.out (by omega)
  have hE5 := HS0.out.r.evs HS0.out.hm
  have hsz5 := hC5.size
  have HC6 := Lib.hid ((hC5.alloc (.map #[] 0)).alloc (.cells #[.map (some w0.heap.size)] 66))
  have HE6 := Lib.hid (Evs.below hE5 (bel_alloc (bel_alloc (Below.refl _ _) (.map #[] 0)) (.cells #[.map (some w0.heap.size)] 66)))
  have HB6 := Lib.hid (bel_alloc (bel_alloc hB5 (.map #[] 0)) (.cells #[.map (some w0.heap.size)] 66))
  have HM6 := Lib.hid ((MapK.new w0 rfl).alloc (.cells #[.map (some w0.heap.size)] 66))
  have HV6 : Hid (Has ((w0.alloc (.map #[] 0)).alloc (.cells #[.map (some w0.heap.size)] 66)) (w0.heap.size + 1) #[.map (some w0.heap.size)]) := Lib.hid (Has.new _ _ _ (by simp))
  obtain ⟨f6, hf6⟩ : ∃ f : KeyP → Bool, (fun _ => false) = f := ⟨_, rfl⟩
  have HF6 : Hid (∀ q : KeyP, f6 q = true ↔ ∃ e ∈ ([] : List EvP), InK u d0 e q) := Lib.hid (fun q => by rw [← hf6]; simp)
  rw [hf6] at HM6
  clear hf6 hC5 hB5 hE5 HS0
  go_wp2_with fail
  obtain ⟨w6, hw6⟩ : ∃ w6, (w0.alloc (.map #[] 0)).alloc (.cells #[.map (some w0.heap.size)] 66) = w6 := ⟨_, rfl⟩
  rw [hw6] at HC6 HE6 HB6 HM6 HV6 ⊢
  clear hw6 p35 pz hmm
  obtain ⟨bm, hbm⟩ : ∃ bm, w0.heap.size = bm := ⟨_, rfl⟩
  rw [hbm] at HM6 HV6 hsz5 ⊢
  clear hbm
  refine wp_loop_rounds 1 ?_
  rw [rounds_succ]
  have pv := HV6.out.cell 0 rfl
  have pvz := cell_lt pv
  go_wp2_with fail
  refine (rising_any bm 0 f6 _ HM6.out (by omega)).mono ?_
  rintro e w9 ⟨A9, m9, c9, ks, rfl, hky, hris, hkin, hmem, hmn, hb9⟩
  have HEND : Hid (ks = touchedK u d0 [] ∧ Kys w9 A9 m9 c9 ks ∧ m9 ≤ 12 ∧ Below W.heap.size W w9) := Lib.hid ⟨touched_eq (by intro e he; simp at he) hris hkin hmem HF6.out, hky, by omega, bel_on HB6.out hb9⟩
  clear hky hris hkin hmem hmn hb9 pv pvz
  go_wp2
  go_ret
  exact ⟨A9, m9, c9, rfl, by rw [← HEND.out.1]; exact HEND.out.2.1, HEND.out.2.2⟩
set_option maxHeartbeats 8000000 in
theorem touched_1 {cs : Array Value} {pl u d0 : Int} {nE nC nG nR : Nat} (hs : SetS cs pl nE nC nG nR) (h8 : cs[8]? = some (.int .i64 u)) (h9 : cs[9]? = some (.int .i64 d0)) (A : Option Addr) (n c : Nat) (l : List EvP) (x : EvP) (W : World) (h : Evs W A n c l) (hnc : n ≤ c ∧ c ≤ 9223372036854775807) (hn : n ≤ 500) (hi : x.In) (hl : ∀ e ∈ l, e.In) :
    Calls Try.prog 16 #[.agg cs, .slice A n c, .agg (fixC 1 x)] W (GotK W (touchedK u d0 (movedE l 1 x))) := by
  have eg0 : ∀ args w, (callFunc 43 args).run Try.prog w = .ok (.enter 43 args) w := enters_of Try.func43 (by kernel_rfl) rfl
  have eg1 : ∀ args w, (callFunc 44 args).run Try.prog w = .ok (.enter 44 args) w := enters_of Try.func44 (by kernel_rfl) rfl
  have eg2 : ∀ args w, (callFunc 45 args).run Try.prog w = .ok (.enter 45 args) w := enters_of Try.func45 (by kernel_rfl) rfl
  have eg9 : ∀ args w, (callFunc 29 args).run Try.prog w = .ok (.enter 29 args) w := enters_of Try.func29 (by kernel_rfl) rfl
  have hs23 := hs.1
  have hB1 : Below W.heap.size W ((W.alloc (.cells cs 30)).alloc (.cells (fixC 1 x) 35)) := bel_alloc (bel_alloc (Below.refl _ _) _) _
  have hC1 : Has ((W.alloc (.cells cs 30)).alloc (.cells (fixC 1 x) 35)) W.heap.size cs := (Has.new _ _ _ rfl).alloc _
  have hF1 : Has ((W.alloc (.cells cs 30)).alloc (.cells (fixC 1 x) 35)) (W.heap.size + 1) (fixC 1 x) := Has.new _ _ _ (by simp)
  have HO := Lib.hid (shC_one hs.2 A none n c 0 0 x)
  have HZ := Lib.hid (sh_size (E := .slice A n c) (x := x) (M := .slice none 0 0) hs23)
  have HH := Lib.hid hs
  have HC := Lib.hid hC1
  have HB := Lib.hid hB1
  have HS23 := Lib.hid hs23
  have HN := Lib.hid h.2
  have HE := Lib.hid h
  have HL := Lib.hid (fix_loadE hF1)
  have H8 := Lib.hid h8
  have H9 := Lib.hid h9
  have HI := Lib.hid hi
  have Q0 := Lib.hid ((hF1.alloc (.cells (shC cs (.slice A n c) x (.slice none 0 0)) 62)).cell 0 (v := .int .i64 1) rfl)
  obtain ⟨R, hR⟩ : ∃ R, movedE l 1 x = R := ⟨_, rfl⟩
  rw [hR]
  have HR := Lib.hid hR
  clear hC1 hF1 hB1 h hs hs23 hR h8 h9 hi
  generalize fixC 1 x = fx at *
  have HLL := Lib.hid hl
  clear hl
  go_enter Try.func16, Try.ntmps16
  go_upto_region 1 with fail
  refine wp_region_lit ?_
  refine wpList_load_has (by rfl) _ rfl W.heap.size rfl cs HC.out HS23.out ?_
  iterate 2 (refine wpList_step (fun K hK => ?_); go_simp; refine hK _ _ ?_; clear hK K)
  (try simp only [Act.put, List.setIfInBounds_toArray, List.set_cons_zero, List.set_cons_succ])
  refine wpList_exec (o := ⟨some 17, _, _, _, _, _⟩) rfl (exec_load_at _ rfl rfl HL.out) ?_
  (try simp only [Act.put, List.setIfInBounds_toArray, List.set_cons_zero, List.set_cons_succ])
  refine wpList_build_sh HS23.out rfl rfl rfl rfl rfl ?_
  (try simp only [Act.put, List.setIfInBounds_toArray, List.set_cons_zero, List.set_cons_succ])
  refine wpList_laid_sh (shC cs (.slice A n c) x (.slice none 0 0)) 7 _ _ rfl rfl rfl rfl rfl rfl rfl rfl HZ.out HO.out ?_
  refine wpList_nil ?_
  have q0 := Q0.out
  have qz := cell_lt q0
  obtain ⟨wa, hwa⟩ : ∃ wa, ((W.alloc (.cells cs 30)).alloc (.cells fx 35)).alloc (.cells (shC cs (.slice A n c) x (.slice none 0 0)) 62) = wa := ⟨_, rfl⟩
  rw [hwa] at q0 qz ⊢
  have HWA := Lib.hid hwa
  have HSA : Hid (wa.heap.size = W.heap.size + 3) := Lib.hid (by rw [← hwa]; simp)
  clear hwa Q0
  go_wp2_with fail
  refine (steps_1 _).mono ?_
  rintro e w2 ⟨rfl, rfl⟩
  rw [HSA.out]
  obtain ⟨w0, hw0⟩ : ∃ w0, wa.alloc (.cells stC1 63) = w0 := ⟨_, rfl⟩
  have HC0 : Hid (Has w0 W.heap.size cs) := by show Has _ _ _; rw [← hw0, ← HWA.out]; exact (HC.out.alloc _).alloc _
  have HB0 : Hid (Below W.heap.size W w0) := by show Below _ _ _; rw [← hw0, ← HWA.out]; exact bel_alloc (bel_alloc HB.out _) _
  have hT0 : Has w0 (W.heap.size + 3) stC1 := by rw [← hw0, ← HWA.out]; exact Has.new _ _ _ (by simp)
  have HT0 := Lib.hid hT0
  have HS0 := Lib.hid (sheet_start2 HE.out hnc HS23.out x HB0.out (g := W.heap.size + 2) (by omega) (by rw [← hw0, ← HWA.out]; exact (Has.new _ _ _ (by simp)).alloc _))
  rw [hw0]
  clear hw0 HC HB HE HL q0 qz HWA HSA HO HZ hT0
  have c0 := HT0.out.cell 0 (v := .func (.func 43) #[] #[]) rfl
  have c0z := cell_lt c0
  go_wp2_with fail
  refine wp_loop_rounds 4 ?_
  rw [rounds_succ]
  go_wp2_with fail
  refine (scheck_any HS0.out HH.out HI.out _ rfl).mono ?_
  rintro e w3 ⟨rfl, hs3⟩
  have HS3 := Lib.hid hs3
  clear c0 c0z HS0
  generalize (if decide (x.May pl nE nC nG nR) = true then (0 : Int) else 80) = z3
  have HT3 := Lib.hid (hs3.has HT0.out (by omega))
  have c1 := HT3.out.cell 1 (v := .func (.func 44) #[] #[]) rfl
  have c1z := cell_lt c1
  clear hs3
  go_wp2
  rw [rounds_succ]
  go_wp2_with fail
  refine (smiss_any HS3.out (by omega)).mono ?_
  rintro e w4 ⟨rfl, hs4⟩
  have HS4 := Lib.hid hs4
  clear c1 c1z HS3
  generalize (if (ixE l x.id).isSome = true then (130 : Int) else 0) = z4
  have HT4 := Lib.hid (hs4.has HT0.out (by omega))
  have c2 := HT4.out.cell 2 (v := .func (.func 45) #[] #[]) rfl
  have c2z := cell_lt c2
  clear hs4
  go_wp2
  rw [rounds_succ]
  go_wp2_with fail
  refine (sput_any HS4.out (by omega) (by omega)).mono ?_
  rintro e w5 ⟨rfl, A5, c5, C5, d5, hs5⟩
  have HS5 := Lib.hid hs5
  clear c2 c2z HS4
  obtain rfl : R = [x] := by rw [← HR.out]; simp [movedE]
  clear HR
  clear hs5
  go_wp2
  rw [rounds_succ]
  go_wp2_with fail
  have hmm := @run_makeMap Try.prog
  have p35 := ((HS5.out.h.alloc (.map #[] 0)).alloc (.cells #[.map (some w5.heap.size)] 66)).cell 35 (sh_M HS5.out.hs)
  have pz := cell_lt p35
  have hC5 := HS5.out.has HC0.out (by omega)
  have hB5 := HS5.out.bel HB0.out (by omega)
  have hE5 := HS5.out.r.evs HS5.out.hm
  have hsz5 := hC5.size
  obtain ⟨b0, off0, hCf⟩ := hE5.form (by omega)
  subst hCf
  have hb0 := cell_lt (hE5.cell (i := 0) (by omega) (j := 0) (by omega))
  have HC6 := Lib.hid ((hC5.alloc (.map #[] 0)).alloc (.cells #[.map (some w5.heap.size)] 66))
  have HE6 := Lib.hid (Evs.below hE5 (bel_alloc (bel_alloc (Below.refl _ _) (.map #[] 0)) (.cells #[.map (some w5.heap.size)] 66)))
  have HB6 := Lib.hid (bel_alloc (bel_alloc hB5 (.map #[] 0)) (.cells #[.map (some w5.heap.size)] 66))
  have HM6 := Lib.hid ((MapK.new w5 rfl).alloc (.cells #[.map (some w5.heap.size)] 66))
  have HV6 : Hid (Has ((w5.alloc (.map #[] 0)).alloc (.cells #[.map (some w5.heap.size)] 66)) (w5.heap.size + 1) #[.map (some w5.heap.size)]) := Lib.hid (Has.new _ _ _ (by simp))
  obtain ⟨f6, hf6⟩ : ∃ f : KeyP → Bool, (fun _ => false) = f := ⟨_, rfl⟩
  have HF6 : Hid (∀ q : KeyP, f6 q = true ↔ ∃ e ∈ ([] : List EvP), InK u d0 e q) := Lib.hid (fun q => by rw [← hf6]; simp)
  rw [hf6] at HM6
  clear hf6 hC5 hB5 hE5 HS5
  go_wp2_with fail
  obtain ⟨w6, hw6⟩ : ∃ w6, (w5.alloc (.map #[] 0)).alloc (.cells #[.map (some w5.heap.size)] 66) = w6 := ⟨_, rfl⟩
  rw [hw6] at HC6 HE6 HB6 HM6 HV6 ⊢
  clear hw6 p35 pz hmm
  obtain ⟨bm, hbm⟩ : ∃ bm, w5.heap.size = bm := ⟨_, rfl⟩
  rw [hbm] at HM6 HV6 hsz5 hb0 ⊢
  clear hbm
  refine wp_loop_rounds 2 ?_
  rw [rounds_succ]
  have hzE6 := cell_lt (HE6.out.cell (i := 0) (by omega) (j := 0) (by omega))
  have HX6 := Lib.hid (HE6.out.below (bel_alloc (Below.refl _ _) (.cells (evC x) 33)))
  go_wp2_with (first | refine wpList_load_ev HE6.out (i := 0) (y := x) (by omega) rfl rfl _ rfl rfl ?_ | refine wpList_laid_e (evC x) 13 _ _ rfl rfl rfl rfl rfl rfl rfl rfl rfl (evC_one _) ?_ | refine wpList_load_e (by rfl) _ rfl w6.heap.size rfl (evC x) (Has.new _ _ _ rfl) rfl ?_ | fail)
  refine (putw_any HS23.out H8.out H9.out x HI.out W.heap.size (bm + 1) bm 0 f6 _ (HC6.out.alloc _) (HV6.out.alloc _) (HM6.out.alloc _) (by omega)).mono ?_
  rintro e w7 ⟨rfl, hm7, hg7⟩
  have HM7 := Lib.hid hm7
  have HV7 := Lib.hid ((HV6.out.alloc (.cells (evC x) 33)).grown hg7 (by simp))
  have HC7 := Lib.hid ((HC6.out.alloc (.cells (evC x) 33)).grown hg7 (by simp; omega))
  have HE7 := Lib.hid (HX6.out.off fun i hn0 hi hlt => hg7.block i hlt (by obtain ⟨a, ha, q⟩ := hi; injection ha with ha; subst ha; simp only at q; simp; omega))
  have HB7 := Lib.hid ((bel_alloc HB6.out (.cells (evC x) 33)).grown hg7 (bel_alloc HB6.out (.cells (evC x) 33)).size (fun k hk => by injection hk with hk; omega))
  obtain ⟨f7, hf7⟩ : ∃ f, upK f6 x.wk (touchP u d0 x.tm).1 (manyW u d0 x) = f := ⟨_, rfl⟩
  have HF7 : Hid (∀ q : KeyP, f7 q = true ↔ ∃ e ∈ [x], InK u d0 e q) := Lib.hid (fun q => by rw [← hf7, upK_iff, HF6.out q]; simp)
  rw [hf7] at HM7
  clear hf7 hm7 hg7 HM6 HV6 HC6 HE6 HB6 HF6 hzE6 HX6
  go_wp2
  rw [rounds_succ]
  have pv := HV7.out.cell 0 rfl
  have pvz := cell_lt pv
  go_wp2_with fail
  refine (rising_any bm 6 f7 _ HM7.out (by omega)).mono ?_
  rintro e w9 ⟨A9, m9, c9, ks, rfl, hky, hris, hkin, hmem, hmn, hb9⟩
  have HEND : Hid (ks = touchedK u d0 [x] ∧ Kys w9 A9 m9 c9 ks ∧ m9 ≤ 12 ∧ Below W.heap.size W w9) := Lib.hid ⟨touched_eq (by intro e he; simp only [List.mem_cons, List.not_mem_nil, or_false] at he; subst he; exact HI.out) hris hkin hmem HF7.out, hky, by omega, bel_on HB7.out hb9⟩
  clear hky hris hkin hmem hmn hb9 pv pvz
  go_wp2
  go_ret
  exact ⟨A9, m9, c9, rfl, by rw [← HEND.out.1]; exact HEND.out.2.1, HEND.out.2.2⟩
set_option maxHeartbeats 8000000 in
theorem touched_2 {cs : Array Value} {pl u d0 : Int} {nE nC nG nR : Nat} (hs : SetS cs pl nE nC nG nR) (h8 : cs[8]? = some (.int .i64 u)) (h9 : cs[9]? = some (.int .i64 d0)) (A : Option Addr) (n c : Nat) (l : List EvP) (x : EvP) (W : World) (h : Evs W A n c l) (hnc : n ≤ c ∧ c ≤ 9223372036854775807) (hn : n ≤ 500) (hi : x.In) (hl : ∀ e ∈ l, e.In) :
    Calls Try.prog 16 #[.agg cs, .slice A n c, .agg (fixC 2 x)] W (GotK W (touchedK u d0 (movedE l 2 x))) := by
  have eg0 : ∀ args w, (callFunc 46 args).run Try.prog w = .ok (.enter 46 args) w := enters_of Try.func46 (by kernel_rfl) rfl
  have eg9 : ∀ args w, (callFunc 29 args).run Try.prog w = .ok (.enter 29 args) w := enters_of Try.func29 (by kernel_rfl) rfl
  have hs23 := hs.1
  have hB1 : Below W.heap.size W ((W.alloc (.cells cs 30)).alloc (.cells (fixC 2 x) 35)) := bel_alloc (bel_alloc (Below.refl _ _) _) _
  have hC1 : Has ((W.alloc (.cells cs 30)).alloc (.cells (fixC 2 x) 35)) W.heap.size cs := (Has.new _ _ _ rfl).alloc _
  have hF1 : Has ((W.alloc (.cells cs 30)).alloc (.cells (fixC 2 x) 35)) (W.heap.size + 1) (fixC 2 x) := Has.new _ _ _ (by simp)
  have HO := Lib.hid (shC_one hs.2 A none n c 0 0 x)
  have HZ := Lib.hid (sh_size (E := .slice A n c) (x := x) (M := .slice none 0 0) hs23)
  have HH := Lib.hid hs
  have HC := Lib.hid hC1
  have HB := Lib.hid hB1
  have HS23 := Lib.hid hs23
  have HN := Lib.hid h.2
  have HE := Lib.hid h
  have HL := Lib.hid (fix_loadE hF1)
  have H8 := Lib.hid h8
  have H9 := Lib.hid h9
  have HI := Lib.hid hi
  have Q0 := Lib.hid ((hF1.alloc (.cells (shC cs (.slice A n c) x (.slice none 0 0)) 62)).cell 0 (v := .int .i64 2) rfl)
  obtain ⟨R, hR⟩ : ∃ R, movedE l 2 x = R := ⟨_, rfl⟩
  rw [hR]
  have HR := Lib.hid hR
  clear hC1 hF1 hB1 h hs hs23 hR h8 h9 hi
  generalize fixC 2 x = fx at *
  have HLL := Lib.hid hl
  clear hl
  go_enter Try.func16, Try.ntmps16
  go_upto_region 1 with fail
  refine wp_region_lit ?_
  refine wpList_load_has (by rfl) _ rfl W.heap.size rfl cs HC.out HS23.out ?_
  iterate 2 (refine wpList_step (fun K hK => ?_); go_simp; refine hK _ _ ?_; clear hK K)
  (try simp only [Act.put, List.setIfInBounds_toArray, List.set_cons_zero, List.set_cons_succ])
  refine wpList_exec (o := ⟨some 17, _, _, _, _, _⟩) rfl (exec_load_at _ rfl rfl HL.out) ?_
  (try simp only [Act.put, List.setIfInBounds_toArray, List.set_cons_zero, List.set_cons_succ])
  refine wpList_build_sh HS23.out rfl rfl rfl rfl rfl ?_
  (try simp only [Act.put, List.setIfInBounds_toArray, List.set_cons_zero, List.set_cons_succ])
  refine wpList_laid_sh (shC cs (.slice A n c) x (.slice none 0 0)) 7 _ _ rfl rfl rfl rfl rfl rfl rfl rfl HZ.out HO.out ?_
  refine wpList_nil ?_
  have q0 := Q0.out
  have qz := cell_lt q0
  obtain ⟨wa, hwa⟩ : ∃ wa, ((W.alloc (.cells cs 30)).alloc (.cells fx 35)).alloc (.cells (shC cs (.slice A n c) x (.slice none 0 0)) 62) = wa := ⟨_, rfl⟩
  rw [hwa] at q0 qz ⊢
  have HWA := Lib.hid hwa
  have HSA : Hid (wa.heap.size = W.heap.size + 3) := Lib.hid (by rw [← hwa]; simp)
  clear hwa Q0
  go_wp2_with fail
  refine (steps_2 _).mono ?_
  rintro e w2 ⟨rfl, rfl⟩
  rw [HSA.out]
  obtain ⟨w0, hw0⟩ : ∃ w0, wa.alloc (.cells stC2 63) = w0 := ⟨_, rfl⟩
  have HC0 : Hid (Has w0 W.heap.size cs) := by show Has _ _ _; rw [← hw0, ← HWA.out]; exact (HC.out.alloc _).alloc _
  have HB0 : Hid (Below W.heap.size W w0) := by show Below _ _ _; rw [← hw0, ← HWA.out]; exact bel_alloc (bel_alloc HB.out _) _
  have hT0 : Has w0 (W.heap.size + 3) stC2 := by rw [← hw0, ← HWA.out]; exact Has.new _ _ _ (by simp)
  have HT0 := Lib.hid hT0
  have HS0 := Lib.hid (sheet_start2 HE.out hnc HS23.out x HB0.out (g := W.heap.size + 2) (by omega) (by rw [← hw0, ← HWA.out]; exact (Has.new _ _ _ (by simp)).alloc _))
  rw [hw0]
  clear hw0 HC HB HE HL q0 qz HWA HSA HO HZ hT0
  have c0 := HT0.out.cell 0 (v := .func (.func 46) #[] #[]) rfl
  have c0z := cell_lt c0
  go_wp2_with fail
  refine wp_loop_rounds 2 ?_
  rw [rounds_succ]
  go_wp2_with fail
  cases hx : ixE l x.id with
  | none =>
    refine (sdrop_none HS0.out (by omega) hx).mono ?_
    rintro e w3 ⟨rfl, hs3⟩
    have HS3 := Lib.hid hs3
    clear c0 c0z HS0
    obtain rfl : R = [] := by rw [← HR.out]; simp [movedE, hx]
    clear HR hx
    clear hs3
    go_wp2
    rw [rounds_succ]
    go_wp2_with fail
    have hmm := @run_makeMap Try.prog
    have p35 := ((HS3.out.h.alloc (.map #[] 0)).alloc (.cells #[.map (some w3.heap.size)] 66)).cell 35 (sh_M HS3.out.hs)
    have pz := cell_lt p35
    have hC5 := HS3.out.has HC0.out (by omega)
    have hB5 := HS3.out.bel HB0.out (by omega)
    have hE5 := HS3.out.r.evs HS3.out.hm
    have hsz5 := hC5.size
    have HC6 := Lib.hid ((hC5.alloc (.map #[] 0)).alloc (.cells #[.map (some w3.heap.size)] 66))
    have HE6 := Lib.hid (Evs.below hE5 (bel_alloc (bel_alloc (Below.refl _ _) (.map #[] 0)) (.cells #[.map (some w3.heap.size)] 66)))
    have HB6 := Lib.hid (bel_alloc (bel_alloc hB5 (.map #[] 0)) (.cells #[.map (some w3.heap.size)] 66))
    have HM6 := Lib.hid ((MapK.new w3 rfl).alloc (.cells #[.map (some w3.heap.size)] 66))
    have HV6 : Hid (Has ((w3.alloc (.map #[] 0)).alloc (.cells #[.map (some w3.heap.size)] 66)) (w3.heap.size + 1) #[.map (some w3.heap.size)]) := Lib.hid (Has.new _ _ _ (by simp))
    obtain ⟨f6, hf6⟩ : ∃ f : KeyP → Bool, (fun _ => false) = f := ⟨_, rfl⟩
    have HF6 : Hid (∀ q : KeyP, f6 q = true ↔ ∃ e ∈ ([] : List EvP), InK u d0 e q) := Lib.hid (fun q => by rw [← hf6]; simp)
    rw [hf6] at HM6
    clear hf6 hC5 hB5 hE5 HS3
    go_wp2_with fail
    obtain ⟨w6, hw6⟩ : ∃ w6, (w3.alloc (.map #[] 0)).alloc (.cells #[.map (some w3.heap.size)] 66) = w6 := ⟨_, rfl⟩
    rw [hw6] at HC6 HE6 HB6 HM6 HV6 ⊢
    clear hw6 p35 pz hmm
    obtain ⟨bm, hbm⟩ : ∃ bm, w3.heap.size = bm := ⟨_, rfl⟩
    rw [hbm] at HM6 HV6 hsz5 ⊢
    clear hbm
    refine wp_loop_rounds 1 ?_
    rw [rounds_succ]
    have pv := HV6.out.cell 0 rfl
    have pvz := cell_lt pv
    go_wp2_with fail
    refine (rising_any bm 0 f6 _ HM6.out (by omega)).mono ?_
    rintro e w9 ⟨A9, m9, c9, ks, rfl, hky, hris, hkin, hmem, hmn, hb9⟩
    have HEND : Hid (ks = touchedK u d0 [] ∧ Kys w9 A9 m9 c9 ks ∧ m9 ≤ 12 ∧ Below W.heap.size W w9) := Lib.hid ⟨touched_eq (by intro e he; simp at he) hris hkin hmem HF6.out, hky, by omega, bel_on HB6.out hb9⟩
    clear hky hris hkin hmem hmn hb9 pv pvz
    go_wp2
    go_ret
    exact ⟨A9, m9, c9, rfl, by rw [← HEND.out.1]; exact HEND.out.2.1, HEND.out.2.2⟩
  | some i =>
    have hil := (ixE_some hx).1
    rw [HN.out] at hil
    obtain ⟨y, hy⟩ : ∃ y, l.getD i EvP.none = y := ⟨_, rfl⟩
    have HYY := Lib.hid hy
    have HY : Hid y.In := Lib.hid (by rw [← hy, List.getD_eq_getElem?_getD, List.getElem?_eq_getElem (by rw [HN.out]; exact hil), Option.getD_some]; exact HLL.out _ (List.getElem_mem _))
    refine (sdrop_some HS0.out (by omega) (by omega) hx).mono ?_
    rw [hy]
    clear hy
    rintro e w3 ⟨rfl, A4, c4, C4, d4, hs3⟩
    have HS3 := Lib.hid hs3
    clear c0 c0z HS0
    obtain rfl : R = [y] := by rw [← HR.out]; simp only [movedE, hx, HYY.out]; rfl
    clear HR hx
    clear hs3
    go_wp2
    rw [rounds_succ]
    go_wp2_with fail
    have hmm := @run_makeMap Try.prog
    have p35 := ((HS3.out.h.alloc (.map #[] 0)).alloc (.cells #[.map (some w3.heap.size)] 66)).cell 35 (sh_M HS3.out.hs)
    have pz := cell_lt p35
    have hC5 := HS3.out.has HC0.out (by omega)
    have hB5 := HS3.out.bel HB0.out (by omega)
    have hE5 := HS3.out.r.evs HS3.out.hm
    have hsz5 := hC5.size
    obtain ⟨b0, off0, hCf⟩ := hE5.form (by omega)
    subst hCf
    have hb0 := cell_lt (hE5.cell (i := 0) (by omega) (j := 0) (by omega))
    have HC6 := Lib.hid ((hC5.alloc (.map #[] 0)).alloc (.cells #[.map (some w3.heap.size)] 66))
    have HE6 := Lib.hid (Evs.below hE5 (bel_alloc (bel_alloc (Below.refl _ _) (.map #[] 0)) (.cells #[.map (some w3.heap.size)] 66)))
    have HB6 := Lib.hid (bel_alloc (bel_alloc hB5 (.map #[] 0)) (.cells #[.map (some w3.heap.size)] 66))
    have HM6 := Lib.hid ((MapK.new w3 rfl).alloc (.cells #[.map (some w3.heap.size)] 66))
    have HV6 : Hid (Has ((w3.alloc (.map #[] 0)).alloc (.cells #[.map (some w3.heap.size)] 66)) (w3.heap.size + 1) #[.map (some w3.heap.size)]) := Lib.hid (Has.new _ _ _ (by simp))
    obtain ⟨f6, hf6⟩ : ∃ f : KeyP → Bool, (fun _ => false) = f := ⟨_, rfl⟩
    have HF6 : Hid (∀ q : KeyP, f6 q = true ↔ ∃ e ∈ ([] : List EvP), InK u d0 e q) := Lib.hid (fun q => by rw [← hf6]; simp)
    rw [hf6] at HM6
    clear hf6 hC5 hB5 hE5 HS3
    go_wp2_with fail
    obtain ⟨w6, hw6⟩ : ∃ w6, (w3.alloc (.map #[] 0)).alloc (.cells #[.map (some w3.heap.size)] 66) = w6 := ⟨_, rfl⟩
    rw [hw6] at HC6 HE6 HB6 HM6 HV6 ⊢
    clear hw6 p35 pz hmm
    obtain ⟨bm, hbm⟩ : ∃ bm, w3.heap.size = bm := ⟨_, rfl⟩
    rw [hbm] at HM6 HV6 hsz5 hb0 ⊢
    clear hbm
    refine wp_loop_rounds 2 ?_
    rw [rounds_succ]
    have hzE6 := cell_lt (HE6.out.cell (i := 0) (by omega) (j := 0) (by omega))
    have HX6 := Lib.hid (HE6.out.below (bel_alloc (Below.refl _ _) (.cells (evC y) 33)))
    go_wp2_with (first | refine wpList_load_ev HE6.out (i := 0) (y := y) (by omega) rfl rfl _ rfl rfl ?_ | refine wpList_laid_e (evC y) 13 _ _ rfl rfl rfl rfl rfl rfl rfl rfl rfl (evC_one _) ?_ | refine wpList_load_e (by rfl) _ rfl w6.heap.size rfl (evC y) (Has.new _ _ _ rfl) rfl ?_ | fail)
    refine (putw_any HS23.out H8.out H9.out y HY.out W.heap.size (bm + 1) bm 0 f6 _ (HC6.out.alloc _) (HV6.out.alloc _) (HM6.out.alloc _) (by omega)).mono ?_
    rintro e w7 ⟨rfl, hm7, hg7⟩
    have HM7 := Lib.hid hm7
    have HV7 := Lib.hid ((HV6.out.alloc (.cells (evC y) 33)).grown hg7 (by simp))
    have HC7 := Lib.hid ((HC6.out.alloc (.cells (evC y) 33)).grown hg7 (by simp; omega))
    have HE7 := Lib.hid (HX6.out.off fun i hn0 hi hlt => hg7.block i hlt (by obtain ⟨a, ha, q⟩ := hi; injection ha with ha; subst ha; simp only at q; simp; omega))
    have HB7 := Lib.hid ((bel_alloc HB6.out (.cells (evC y) 33)).grown hg7 (bel_alloc HB6.out (.cells (evC y) 33)).size (fun k hk => by injection hk with hk; omega))
    obtain ⟨f7, hf7⟩ : ∃ f, upK f6 y.wk (touchP u d0 y.tm).1 (manyW u d0 y) = f := ⟨_, rfl⟩
    have HF7 : Hid (∀ q : KeyP, f7 q = true ↔ ∃ e ∈ [y], InK u d0 e q) := Lib.hid (fun q => by rw [← hf7, upK_iff, HF6.out q]; simp)
    rw [hf7] at HM7
    clear hf7 hm7 hg7 HM6 HV6 HC6 HE6 HB6 HF6 hzE6 HX6
    go_wp2
    rw [rounds_succ]
    have pv := HV7.out.cell 0 rfl
    have pvz := cell_lt pv
    go_wp2_with fail
    refine (rising_any bm 6 f7 _ HM7.out (by omega)).mono ?_
    rintro e w9 ⟨A9, m9, c9, ks, rfl, hky, hris, hkin, hmem, hmn, hb9⟩
    have HEND : Hid (ks = touchedK u d0 [y] ∧ Kys w9 A9 m9 c9 ks ∧ m9 ≤ 12 ∧ Below W.heap.size W w9) := Lib.hid ⟨touched_eq (by intro e he; simp only [List.mem_cons, List.not_mem_nil, or_false] at he; subst he; exact HY.out) hris hkin hmem HF7.out, hky, by omega, bel_on HB7.out hb9⟩
    clear hky hris hkin hmem hmn hb9 pv pvz
    go_wp2
    go_ret
    exact ⟨A9, m9, c9, rfl, by rw [← HEND.out.1]; exact HEND.out.2.1, HEND.out.2.2⟩
set_option maxHeartbeats 8000000 in
theorem touched_3 {cs : Array Value} {pl u d0 : Int} {nE nC nG nR : Nat} (hs : SetS cs pl nE nC nG nR) (h8 : cs[8]? = some (.int .i64 u)) (h9 : cs[9]? = some (.int .i64 d0)) (A : Option Addr) (n c : Nat) (l : List EvP) (x : EvP) (W : World) (h : Evs W A n c l) (hnc : n ≤ c ∧ c ≤ 9223372036854775807) (hn : n ≤ 500) (hi : x.In) (hl : ∀ e ∈ l, e.In) :
    Calls Try.prog 16 #[.agg cs, .slice A n c, .agg (fixC 3 x)] W (GotK W (touchedK u d0 (movedE l 3 x))) := by
  have eg0 : ∀ args w, (callFunc 43 args).run Try.prog w = .ok (.enter 43 args) w := enters_of Try.func43 (by kernel_rfl) rfl
  have eg1 : ∀ args w, (callFunc 46 args).run Try.prog w = .ok (.enter 46 args) w := enters_of Try.func46 (by kernel_rfl) rfl
  have eg2 : ∀ args w, (callFunc 45 args).run Try.prog w = .ok (.enter 45 args) w := enters_of Try.func45 (by kernel_rfl) rfl
  have eg9 : ∀ args w, (callFunc 29 args).run Try.prog w = .ok (.enter 29 args) w := enters_of Try.func29 (by kernel_rfl) rfl
  have hs23 := hs.1
  have hB1 : Below W.heap.size W ((W.alloc (.cells cs 30)).alloc (.cells (fixC 3 x) 35)) := bel_alloc (bel_alloc (Below.refl _ _) _) _
  have hC1 : Has ((W.alloc (.cells cs 30)).alloc (.cells (fixC 3 x) 35)) W.heap.size cs := (Has.new _ _ _ rfl).alloc _
  have hF1 : Has ((W.alloc (.cells cs 30)).alloc (.cells (fixC 3 x) 35)) (W.heap.size + 1) (fixC 3 x) := Has.new _ _ _ (by simp)
  have HO := Lib.hid (shC_one hs.2 A none n c 0 0 x)
  have HZ := Lib.hid (sh_size (E := .slice A n c) (x := x) (M := .slice none 0 0) hs23)
  have HH := Lib.hid hs
  have HC := Lib.hid hC1
  have HB := Lib.hid hB1
  have HS23 := Lib.hid hs23
  have HN := Lib.hid h.2
  have HE := Lib.hid h
  have HL := Lib.hid (fix_loadE hF1)
  have H8 := Lib.hid h8
  have H9 := Lib.hid h9
  have HI := Lib.hid hi
  have Q0 := Lib.hid ((hF1.alloc (.cells (shC cs (.slice A n c) x (.slice none 0 0)) 62)).cell 0 (v := .int .i64 3) rfl)
  obtain ⟨R, hR⟩ : ∃ R, movedE l 3 x = R := ⟨_, rfl⟩
  rw [hR]
  have HR := Lib.hid hR
  clear hC1 hF1 hB1 h hs hs23 hR h8 h9 hi
  generalize fixC 3 x = fx at *
  have HLL := Lib.hid hl
  clear hl
  go_enter Try.func16, Try.ntmps16
  go_upto_region 1 with fail
  refine wp_region_lit ?_
  refine wpList_load_has (by rfl) _ rfl W.heap.size rfl cs HC.out HS23.out ?_
  iterate 2 (refine wpList_step (fun K hK => ?_); go_simp; refine hK _ _ ?_; clear hK K)
  (try simp only [Act.put, List.setIfInBounds_toArray, List.set_cons_zero, List.set_cons_succ])
  refine wpList_exec (o := ⟨some 17, _, _, _, _, _⟩) rfl (exec_load_at _ rfl rfl HL.out) ?_
  (try simp only [Act.put, List.setIfInBounds_toArray, List.set_cons_zero, List.set_cons_succ])
  refine wpList_build_sh HS23.out rfl rfl rfl rfl rfl ?_
  (try simp only [Act.put, List.setIfInBounds_toArray, List.set_cons_zero, List.set_cons_succ])
  refine wpList_laid_sh (shC cs (.slice A n c) x (.slice none 0 0)) 7 _ _ rfl rfl rfl rfl rfl rfl rfl rfl HZ.out HO.out ?_
  refine wpList_nil ?_
  have q0 := Q0.out
  have qz := cell_lt q0
  obtain ⟨wa, hwa⟩ : ∃ wa, ((W.alloc (.cells cs 30)).alloc (.cells fx 35)).alloc (.cells (shC cs (.slice A n c) x (.slice none 0 0)) 62) = wa := ⟨_, rfl⟩
  rw [hwa] at q0 qz ⊢
  have HWA := Lib.hid hwa
  have HSA : Hid (wa.heap.size = W.heap.size + 3) := Lib.hid (by rw [← hwa]; simp)
  clear hwa Q0
  go_wp2_with fail
  refine (steps_3 _).mono ?_
  rintro e w2 ⟨rfl, rfl⟩
  rw [HSA.out]
  obtain ⟨w0, hw0⟩ : ∃ w0, wa.alloc (.cells stC3 63) = w0 := ⟨_, rfl⟩
  have HC0 : Hid (Has w0 W.heap.size cs) := by show Has _ _ _; rw [← hw0, ← HWA.out]; exact (HC.out.alloc _).alloc _
  have HB0 : Hid (Below W.heap.size W w0) := by show Below _ _ _; rw [← hw0, ← HWA.out]; exact bel_alloc (bel_alloc HB.out _) _
  have hT0 : Has w0 (W.heap.size + 3) stC3 := by rw [← hw0, ← HWA.out]; exact Has.new _ _ _ (by simp)
  have HT0 := Lib.hid hT0
  have HS0 := Lib.hid (sheet_start2 HE.out hnc HS23.out x HB0.out (g := W.heap.size + 2) (by omega) (by rw [← hw0, ← HWA.out]; exact (Has.new _ _ _ (by simp)).alloc _))
  rw [hw0]
  clear hw0 HC HB HE HL q0 qz HWA HSA HO HZ hT0
  have c0 := HT0.out.cell 0 (v := .func (.func 43) #[] #[]) rfl
  have c0z := cell_lt c0
  go_wp2_with fail
  refine wp_loop_rounds 4 ?_
  rw [rounds_succ]
  go_wp2_with fail
  refine (scheck_any HS0.out HH.out HI.out _ rfl).mono ?_
  rintro e w3 ⟨rfl, hs3⟩
  have HS3 := Lib.hid hs3
  clear c0 c0z HS0
  generalize (if decide (x.May pl nE nC nG nR) = true then (0 : Int) else 80) = z3
  have HT3 := Lib.hid (hs3.has HT0.out (by omega))
  have c1 := HT3.out.cell 1 (v := .func (.func 46) #[] #[]) rfl
  have c1z := cell_lt c1
  clear hs3
  go_wp2
  rw [rounds_succ]
  go_wp2_with fail
  cases hx : ixE l x.id with
  | none =>
    refine (sdrop_none HS3.out (by omega) hx).mono ?_
    rintro e w4 ⟨rfl, hs4⟩
    have HS4 := Lib.hid hs4
    clear c1 c1z HS3
    have HT4 := Lib.hid (hs4.has HT0.out (by omega))
    have c2 := HT4.out.cell 2 (v := .func (.func 45) #[] #[]) rfl
    have c2z := cell_lt c2
    clear hs4
    go_wp2
    rw [rounds_succ]
    go_wp2_with fail
    refine (sput_any HS4.out (by omega) (by omega)).mono ?_
    rintro e w5 ⟨rfl, A5, c5, C5, d5, hs5⟩
    have HS5 := Lib.hid hs5
    clear c2 c2z HS4
    obtain rfl : R = [x] := by rw [← HR.out]; simp [movedE, hx]
    clear HR hx
    clear hs5
    go_wp2
    rw [rounds_succ]
    go_wp2_with fail
    have hmm := @run_makeMap Try.prog
    have p35 := ((HS5.out.h.alloc (.map #[] 0)).alloc (.cells #[.map (some w5.heap.size)] 66)).cell 35 (sh_M HS5.out.hs)
    have pz := cell_lt p35
    have hC5 := HS5.out.has HC0.out (by omega)
    have hB5 := HS5.out.bel HB0.out (by omega)
    have hE5 := HS5.out.r.evs HS5.out.hm
    have hsz5 := hC5.size
    obtain ⟨b0, off0, hCf⟩ := hE5.form (by omega)
    subst hCf
    have hb0 := cell_lt (hE5.cell (i := 0) (by omega) (j := 0) (by omega))
    have HC6 := Lib.hid ((hC5.alloc (.map #[] 0)).alloc (.cells #[.map (some w5.heap.size)] 66))
    have HE6 := Lib.hid (Evs.below hE5 (bel_alloc (bel_alloc (Below.refl _ _) (.map #[] 0)) (.cells #[.map (some w5.heap.size)] 66)))
    have HB6 := Lib.hid (bel_alloc (bel_alloc hB5 (.map #[] 0)) (.cells #[.map (some w5.heap.size)] 66))
    have HM6 := Lib.hid ((MapK.new w5 rfl).alloc (.cells #[.map (some w5.heap.size)] 66))
    have HV6 : Hid (Has ((w5.alloc (.map #[] 0)).alloc (.cells #[.map (some w5.heap.size)] 66)) (w5.heap.size + 1) #[.map (some w5.heap.size)]) := Lib.hid (Has.new _ _ _ (by simp))
    obtain ⟨f6, hf6⟩ : ∃ f : KeyP → Bool, (fun _ => false) = f := ⟨_, rfl⟩
    have HF6 : Hid (∀ q : KeyP, f6 q = true ↔ ∃ e ∈ ([] : List EvP), InK u d0 e q) := Lib.hid (fun q => by rw [← hf6]; simp)
    rw [hf6] at HM6
    clear hf6 hC5 hB5 hE5 HS5
    go_wp2_with fail
    obtain ⟨w6, hw6⟩ : ∃ w6, (w5.alloc (.map #[] 0)).alloc (.cells #[.map (some w5.heap.size)] 66) = w6 := ⟨_, rfl⟩
    rw [hw6] at HC6 HE6 HB6 HM6 HV6 ⊢
    clear hw6 p35 pz hmm
    obtain ⟨bm, hbm⟩ : ∃ bm, w5.heap.size = bm := ⟨_, rfl⟩
    rw [hbm] at HM6 HV6 hsz5 hb0 ⊢
    clear hbm
    refine wp_loop_rounds 2 ?_
    rw [rounds_succ]
    have hzE6 := cell_lt (HE6.out.cell (i := 0) (by omega) (j := 0) (by omega))
    have HX6 := Lib.hid (HE6.out.below (bel_alloc (Below.refl _ _) (.cells (evC x) 33)))
    go_wp2_with (first | refine wpList_load_ev HE6.out (i := 0) (y := x) (by omega) rfl rfl _ rfl rfl ?_ | refine wpList_laid_e (evC x) 13 _ _ rfl rfl rfl rfl rfl rfl rfl rfl rfl (evC_one _) ?_ | refine wpList_load_e (by rfl) _ rfl w6.heap.size rfl (evC x) (Has.new _ _ _ rfl) rfl ?_ | fail)
    refine (putw_any HS23.out H8.out H9.out x HI.out W.heap.size (bm + 1) bm 0 f6 _ (HC6.out.alloc _) (HV6.out.alloc _) (HM6.out.alloc _) (by omega)).mono ?_
    rintro e w7 ⟨rfl, hm7, hg7⟩
    have HM7 := Lib.hid hm7
    have HV7 := Lib.hid ((HV6.out.alloc (.cells (evC x) 33)).grown hg7 (by simp))
    have HC7 := Lib.hid ((HC6.out.alloc (.cells (evC x) 33)).grown hg7 (by simp; omega))
    have HE7 := Lib.hid (HX6.out.off fun i hn0 hi hlt => hg7.block i hlt (by obtain ⟨a, ha, q⟩ := hi; injection ha with ha; subst ha; simp only at q; simp; omega))
    have HB7 := Lib.hid ((bel_alloc HB6.out (.cells (evC x) 33)).grown hg7 (bel_alloc HB6.out (.cells (evC x) 33)).size (fun k hk => by injection hk with hk; omega))
    obtain ⟨f7, hf7⟩ : ∃ f, upK f6 x.wk (touchP u d0 x.tm).1 (manyW u d0 x) = f := ⟨_, rfl⟩
    have HF7 : Hid (∀ q : KeyP, f7 q = true ↔ ∃ e ∈ [x], InK u d0 e q) := Lib.hid (fun q => by rw [← hf7, upK_iff, HF6.out q]; simp)
    rw [hf7] at HM7
    clear hf7 hm7 hg7 HM6 HV6 HC6 HE6 HB6 HF6 hzE6 HX6
    go_wp2
    rw [rounds_succ]
    have pv := HV7.out.cell 0 rfl
    have pvz := cell_lt pv
    go_wp2_with fail
    refine (rising_any bm 6 f7 _ HM7.out (by omega)).mono ?_
    rintro e w9 ⟨A9, m9, c9, ks, rfl, hky, hris, hkin, hmem, hmn, hb9⟩
    have HEND : Hid (ks = touchedK u d0 [x] ∧ Kys w9 A9 m9 c9 ks ∧ m9 ≤ 12 ∧ Below W.heap.size W w9) := Lib.hid ⟨touched_eq (by intro e he; simp only [List.mem_cons, List.not_mem_nil, or_false] at he; subst he; exact HI.out) hris hkin hmem HF7.out, hky, by omega, bel_on HB7.out hb9⟩
    clear hky hris hkin hmem hmn hb9 pv pvz
    go_wp2
    go_ret
    exact ⟨A9, m9, c9, rfl, by rw [← HEND.out.1]; exact HEND.out.2.1, HEND.out.2.2⟩
  | some i =>
    have hil := (ixE_some hx).1
    rw [HN.out] at hil
    obtain ⟨y, hy⟩ : ∃ y, l.getD i EvP.none = y := ⟨_, rfl⟩
    have HYY := Lib.hid hy
    have HY : Hid y.In := Lib.hid (by rw [← hy, List.getD_eq_getElem?_getD, List.getElem?_eq_getElem (by rw [HN.out]; exact hil), Option.getD_some]; exact HLL.out _ (List.getElem_mem _))
    refine (sdrop_some HS3.out (by omega) (by omega) hx).mono ?_
    rw [hy]
    clear hy
    rintro e w4 ⟨rfl, A4, c4, C4, d4, hs4⟩
    have HS4 := Lib.hid hs4
    clear c1 c1z HS3
    have HT4 := Lib.hid (hs4.has HT0.out (by omega))
    have c2 := HT4.out.cell 2 (v := .func (.func 45) #[] #[]) rfl
    have c2z := cell_lt c2
    clear hs4
    go_wp2
    rw [rounds_succ]
    go_wp2_with fail
    refine (sput_any HS4.out (by omega) (by omega)).mono ?_
    rintro e w5 ⟨rfl, A5, c5, C5, d5, hs5⟩
    have HS5 := Lib.hid hs5
    clear c2 c2z HS4
    obtain rfl : R = [y, x] := by rw [← HR.out]; simp only [movedE, hx, HYY.out]; rfl
    clear HR hx
    clear hs5
    go_wp2
    rw [rounds_succ]
    go_wp2_with fail
    have hmm := @run_makeMap Try.prog
    have p35 := ((HS5.out.h.alloc (.map #[] 0)).alloc (.cells #[.map (some w5.heap.size)] 66)).cell 35 (sh_M HS5.out.hs)
    have pz := cell_lt p35
    have hC5 := HS5.out.has HC0.out (by omega)
    have hB5 := HS5.out.bel HB0.out (by omega)
    have hE5 := HS5.out.r.evs HS5.out.hm
    have hsz5 := hC5.size
    obtain ⟨b0, off0, hCf⟩ := hE5.form (by omega)
    subst hCf
    have hb0 := cell_lt (hE5.cell (i := 0) (by omega) (j := 0) (by omega))
    have HC6 := Lib.hid ((hC5.alloc (.map #[] 0)).alloc (.cells #[.map (some w5.heap.size)] 66))
    have HE6 := Lib.hid (Evs.below hE5 (bel_alloc (bel_alloc (Below.refl _ _) (.map #[] 0)) (.cells #[.map (some w5.heap.size)] 66)))
    have HB6 := Lib.hid (bel_alloc (bel_alloc hB5 (.map #[] 0)) (.cells #[.map (some w5.heap.size)] 66))
    have HM6 := Lib.hid ((MapK.new w5 rfl).alloc (.cells #[.map (some w5.heap.size)] 66))
    have HV6 : Hid (Has ((w5.alloc (.map #[] 0)).alloc (.cells #[.map (some w5.heap.size)] 66)) (w5.heap.size + 1) #[.map (some w5.heap.size)]) := Lib.hid (Has.new _ _ _ (by simp))
    obtain ⟨f6, hf6⟩ : ∃ f : KeyP → Bool, (fun _ => false) = f := ⟨_, rfl⟩
    have HF6 : Hid (∀ q : KeyP, f6 q = true ↔ ∃ e ∈ ([] : List EvP), InK u d0 e q) := Lib.hid (fun q => by rw [← hf6]; simp)
    rw [hf6] at HM6
    clear hf6 hC5 hB5 hE5 HS5
    go_wp2_with fail
    obtain ⟨w6, hw6⟩ : ∃ w6, (w5.alloc (.map #[] 0)).alloc (.cells #[.map (some w5.heap.size)] 66) = w6 := ⟨_, rfl⟩
    rw [hw6] at HC6 HE6 HB6 HM6 HV6 ⊢
    clear hw6 p35 pz hmm
    obtain ⟨bm, hbm⟩ : ∃ bm, w5.heap.size = bm := ⟨_, rfl⟩
    rw [hbm] at HM6 HV6 hsz5 hb0 ⊢
    clear hbm
    refine wp_loop_rounds 3 ?_
    rw [rounds_succ]
    have hzE6 := cell_lt (HE6.out.cell (i := 0) (by omega) (j := 0) (by omega))
    have HX6 := Lib.hid (HE6.out.below (bel_alloc (Below.refl _ _) (.cells (evC y) 33)))
    go_wp2_with (first | refine wpList_load_ev HE6.out (i := 0) (y := y) (by omega) rfl rfl _ rfl rfl ?_ | refine wpList_laid_e (evC y) 13 _ _ rfl rfl rfl rfl rfl rfl rfl rfl rfl (evC_one _) ?_ | refine wpList_load_e (by rfl) _ rfl w6.heap.size rfl (evC y) (Has.new _ _ _ rfl) rfl ?_ | fail)
    refine (putw_any HS23.out H8.out H9.out y HY.out W.heap.size (bm + 1) bm 0 f6 _ (HC6.out.alloc _) (HV6.out.alloc _) (HM6.out.alloc _) (by omega)).mono ?_
    rintro e w7 ⟨rfl, hm7, hg7⟩
    have HM7 := Lib.hid hm7
    have HV7 := Lib.hid ((HV6.out.alloc (.cells (evC y) 33)).grown hg7 (by simp))
    have HC7 := Lib.hid ((HC6.out.alloc (.cells (evC y) 33)).grown hg7 (by simp; omega))
    have HE7 := Lib.hid (HX6.out.off fun i hn0 hi hlt => hg7.block i hlt (by obtain ⟨a, ha, q⟩ := hi; injection ha with ha; subst ha; simp only at q; simp; omega))
    have HB7 := Lib.hid ((bel_alloc HB6.out (.cells (evC y) 33)).grown hg7 (bel_alloc HB6.out (.cells (evC y) 33)).size (fun k hk => by injection hk with hk; omega))
    obtain ⟨f7, hf7⟩ : ∃ f, upK f6 y.wk (touchP u d0 y.tm).1 (manyW u d0 y) = f := ⟨_, rfl⟩
    have HF7 : Hid (∀ q : KeyP, f7 q = true ↔ ∃ e ∈ [y], InK u d0 e q) := Lib.hid (fun q => by rw [← hf7, upK_iff, HF6.out q]; simp)
    rw [hf7] at HM7
    clear hf7 hm7 hg7 HM6 HV6 HC6 HE6 HB6 HF6 hzE6 HX6
    go_wp2
    rw [rounds_succ]
    have hzE7 := cell_lt (HE7.out.cell (i := 1) (by omega) (j := 0) (by omega))
    have HX7 := Lib.hid (HE7.out.below (bel_alloc (Below.refl _ _) (.cells (evC x) 33)))
    go_wp2_with (first | refine wpList_load_ev HE7.out (i := 1) (y := x) (by omega) rfl rfl _ rfl rfl ?_ | refine wpList_laid_e (evC x) 13 _ _ rfl rfl rfl rfl rfl rfl rfl rfl rfl (evC_one _) ?_ | refine wpList_load_e (by rfl) _ rfl w7.heap.size rfl (evC x) (Has.new _ _ _ rfl) rfl ?_ | fail)
    refine (putw_any HS23.out H8.out H9.out x HI.out W.heap.size (bm + 1) bm 6 f7 _ (HC7.out.alloc _) (HV7.out.alloc _) (HM7.out.alloc _) (by omega)).mono ?_
    rintro e w8 ⟨rfl, hm8, hg8⟩
    have HM8 := Lib.hid hm8
    have HV8 := Lib.hid ((HV7.out.alloc (.cells (evC x) 33)).grown hg8 (by simp))
    have HC8 := Lib.hid ((HC7.out.alloc (.cells (evC x) 33)).grown hg8 (by simp; omega))
    have HE8 := Lib.hid (HX7.out.off fun i hn0 hi hlt => hg8.block i hlt (by obtain ⟨a, ha, q⟩ := hi; injection ha with ha; subst ha; simp only at q; simp; omega))
    have HB8 := Lib.hid ((bel_alloc HB7.out (.cells (evC x) 33)).grown hg8 (bel_alloc HB7.out (.cells (evC x) 33)).size (fun k hk => by injection hk with hk; omega))
    obtain ⟨f8, hf8⟩ : ∃ f, upK f7 x.wk (touchP u d0 x.tm).1 (manyW u d0 x) = f := ⟨_, rfl⟩
    have HF8 : Hid (∀ q : KeyP, f8 q = true ↔ ∃ e ∈ [y, x], InK u d0 e q) := Lib.hid (fun q => by rw [← hf8, upK_iff, HF7.out q]; simp)
    rw [hf8] at HM8
    clear hf8 hm8 hg8 HM7 HV7 HC7 HE7 HB7 HF7 hzE7 HX7
    go_wp2
    rw [rounds_succ]
    have pv := HV8.out.cell 0 rfl
    have pvz := cell_lt pv
    go_wp2_with fail
    refine (rising_any bm 12 f8 _ HM8.out (by omega)).mono ?_
    rintro e w9 ⟨A9, m9, c9, ks, rfl, hky, hris, hkin, hmem, hmn, hb9⟩
    have HEND : Hid (ks = touchedK u d0 [y, x] ∧ Kys w9 A9 m9 c9 ks ∧ m9 ≤ 12 ∧ Below W.heap.size W w9) := Lib.hid ⟨touched_eq (by intro e he; simp only [List.mem_cons, List.not_mem_nil, or_false] at he; rcases he with rfl | rfl; exact HY.out; exact HI.out) hris hkin hmem HF8.out, hky, by omega, bel_on HB8.out hb9⟩
    clear hky hris hkin hmem hmn hb9 pv pvz
    go_wp2
    go_ret
    exact ⟨A9, m9, c9, rfl, by rw [← HEND.out.1]; exact HEND.out.2.1, HEND.out.2.2⟩
theorem touched_any {cs : Array Value} {pl u d0 : Int} {nE nC nG nR : Nat} (hs : SetS cs pl nE nC nG nR) (h8 : cs[8]? = some (.int .i64 u)) (h9 : cs[9]? = some (.int .i64 d0)) (A : Option Addr) (n c : Nat) (l : List EvP) (k : Int) (x : EvP) (W : World) (h : Evs W A n c l) (hnc : n ≤ c ∧ c ≤ 9223372036854775807) (hn : n ≤ 500) (hi : x.In) (hl : ∀ e ∈ l, e.In) :
    Calls Try.prog 16 #[.agg cs, .slice A n c, .agg (fixC k x)] W (GotK W (touchedK u d0 (movedE l k x))) := by
  by_cases h1 : k = 1
  · subst h1; exact touched_1 hs h8 h9 A n c l x W h hnc hn hi hl
  · by_cases h2 : k = 2
    · subst h2; exact touched_2 hs h8 h9 A n c l x W h hnc hn hi hl
    · by_cases h3 : k = 3
      · subst h3; exact touched_3 hs h8 h9 A n c l x W h hnc hn hi hl
      · exact touched_0 hs h8 h9 A n c l k x W h hnc hn hi hl h1 h2 h3
end Go.Proofs.Ytedkhjbnjkcemaa
