/-
  Package fixes' steps of a kind; a sheet is laid.
  Package fixes' Apply.
-/
import Derived.Test.YtedkhjbnjkcemaaZax
import Derived.Laws.Tables
import Derived.Test.YtedkhjbnjkcemaaZaq
namespace Go.Proofs.Ytedkhjbnjkcemaa
open Go.RowKit
set_option linter.unusedVariables false
set_option linter.unusedSimpArgs false
set_option maxRecDepth 20000

def fnV (f : FuncId) : Value := .func (.func f) #[] #[]
def stC1 : Array Value := #[fnV 43, fnV 44, fnV 45]
def stC2 : Array Value := #[fnV 46]
def stC3 : Array Value := #[fnV 43, fnV 46, fnV 45]
theorem steps_1 (w : World) : Calls Try.prog 24 #[.int .i64 1] w fun e w' => e = .returned (.slice (some ⟨w.heap.size, 0, none⟩) 3 3) ∧ w' = w.alloc (.cells stC1 63) := by
  go_enter Try.func24, Try.ntmps24
  go_wp2
  go_ret
  exact ⟨rfl, rfl⟩
theorem steps_2 (w : World) : Calls Try.prog 24 #[.int .i64 2] w fun e w' => e = .returned (.slice (some ⟨w.heap.size, 0, none⟩) 1 1) ∧ w' = w.alloc (.cells stC2 63) := by
  go_enter Try.func24, Try.ntmps24
  go_wp2
  go_ret
  exact ⟨rfl, rfl⟩
theorem steps_3 (w : World) : Calls Try.prog 24 #[.int .i64 3] w fun e w' => e = .returned (.slice (some ⟨w.heap.size, 0, none⟩) 3 3) ∧ w' = w.alloc (.cells stC3 63) := by
  go_enter Try.func24, Try.ntmps24
  go_wp2
  go_ret
  exact ⟨rfl, rfl⟩
theorem steps_0 (k : Int) (h1 : k ≠ 1) (h2 : k ≠ 2) (h3 : k ≠ 3) (w : World) : Calls Try.prog 24 #[.int .i64 k] w fun e w' => e = .returned (.slice none 0 0) ∧ w = w' := by
  have g1 : (k == 1) = false := beq_eq_false_iff_ne.2 h1
  have g2 : (k == 2) = false := beq_eq_false_iff_ne.2 h2
  have g3 : (k == 3) = false := beq_eq_false_iff_ne.2 h3
  clear h1 h2 h3
  go_enter Try.func24, Try.ntmps24
  go_wp2
  go_ret
  exact ⟨rfl, rfl⟩
/-! ### A sheet is laid -/
theorem built_sheet (cs : Array Value) (hs : cs.size = 23) (A : Option Addr) (n c : Nat) (x : EvP) : Try.prog.built 62 [(0, .agg cs), (1, .slice A n c), (2, .agg (evC x))] = some (shC cs (.slice A n c) x (.slice none 0 0)) := by
  obtain ⟨l⟩ := cs
  obtain ⟨a0, a1, a2, a3, a4, a5, a6, a7, a8, a9, a10, a11, a12, a13, a14, a15, a16, a17, a18, a19, a20, a21, a22, rfl⟩ := list23 (l := l) hs
  obtain ⟨b1, b2, b3, b4, b5, b6, b7, b8, b9, b10, b11⟩ := x
  kernel_rfl
/-- What a sheet is ahead of its first store. -/
def z36 : Array Value := shC z23 (.slice none 0 0) EvP.none (.slice none 0 0)
theorem shC_one {cs : Array Value} (h : cs.all (·.oneCell') = true) (A C : Option Addr) (n c m d : Nat) (x : EvP) : (shC cs (.slice A n c) x (.slice C m d)).all (·.oneCell') = true := by
  simp only [shC, Array.all_append, h, evC_one]
  simp [Value.oneCell']
theorem wpList_build_sh {ops : Array Oper} {rest : List Oper} {o : Oper} {a : Act} {w : World} {Q : Exit → Act → World → Prop} {p1 p2 p3 : Operand} {cs : Array Value} {A : Option Addr} {n c : Nat} {x : EvP} (hs : cs.size = 23) (hgd : o.guard = none)
    (ho : o.op = .build 62 #[(0, p1), (1, p2), (2, p3)]) (h1 : a.eval p1 = .agg cs) (h2 : a.eval p2 = .slice A n c) (h3 : a.eval p3 = .agg (evC x))
    (h : wpList Try.prog ops Q rest (a.put o.dst (.agg (shC cs (.slice A n c) x (.slice none 0 0)))) w) : wpList Try.prog ops Q (o :: rest) a w := by
  refine wpList_plain hgd fun K hK => ?_
  have hc : Try.prog.built 62 ((#[(0, p1), (1, p2), (2, p3)] : Array (Nat × Operand)).map fun (i, x) => (i, a.eval x)).toList = some (shC cs (.slice A n c) x (.slice none 0 0)) := by
    simp only [List.map_toArray, List.map_cons, List.map_nil, h1, h2, h3]
    exact built_sheet cs hs A n c x
  refine wp_build _ _ ho (by rw [hc]; rfl) ?_
  rw [hc]
  exact hK _ _ h
theorem wpList_laid_sh {ops : Array Oper} {rest : List Oper} {o1 o : Oper} {a : Act} {w : World} {Q : Exit → Act → World → Prop} (cs : Array Value) (d : Tmp) (x y : Operand) (hg1 : o1.guard = none) (ho1 : o1.op = .alloc 62) (hd1 : o1.dst = some d)
    (hgd : o.guard = none) (ho : o.op = .store 62 x y) (hd : o.dst = none) (hx : (a.put o1.dst (.pointer (some ⟨w.heap.size, 0, none⟩))).eval x = .pointer (some ⟨w.heap.size, 0, none⟩)) (hy : (a.put o1.dst (.pointer (some ⟨w.heap.size, 0, none⟩))).eval y = .agg cs)
    (hs : cs.size = 36) (h1 : cs.all (·.oneCell') = true)
    (h : wpList Try.prog ops Q rest (a.put o1.dst (.pointer (some ⟨w.heap.size, 0, none⟩))) (w.alloc (.cells cs 62))) : wpList Try.prog ops Q (o1 :: o :: rest) a w := by
  rw [hd1] at hx hy h
  refine wpList_plain hg1 fun K hK => ?_
  unfold Oper.wp execOp
  simp only [ho1]
  go_simp
  refine hK _ _ ?_
  refine wpList_store_row hgd _ x y ho w.heap.size cs hx hy 62 z36 (heap_alloc_new w _) (by rw [hs]; kernel_rfl) (by rw [hs]; rfl) h1 ?_
  rw [hd]
  have e := World.setRow_alloc_new w z36 cs 62
  rw [← e] at h
  exact h
/-- A correction's cells. -/
def fixC (k : Int) (x : EvP) : Array Value := #[.int .i64 k, .int .i64 x.id, .int .i64 x.wk, .int .i64 x.tm, .int .i64 x.kd, .int .i64 x.fr, .int .i64 x.to, .int .i64 x.el, .int .i64 x.un, .int .i64 x.cl, .int .i64 x.ge, .int .i64 x.cd]
theorem fix_loadE {w : World} {g : Nat} {k : Int} {x : EvP} (h : Has w g (fixC k x)) : (loadVar 33 ⟨g, 1, none⟩).run Try.prog w = .ok (.agg (evC x)) w :=
  run_loadVar_at fun j hj => by
    rw [has_at h]
    have : fixC k x = #[.int .i64 k] ++ evC x := rfl
    rw [this, Array.getElem?_append_right (by simp)]
    congr 1
    simp
end Go.Proofs.Ytedkhjbnjkcemaa

namespace Go.Proofs.Ytedkhjbnjkcemaa
open Go.RowKit
set_option linter.unusedVariables false
set_option linter.unusedSimpArgs false
set_option maxRecDepth 20000

/-- What a call that tells events and an error answers. -/
def GotE (W : World) (R : List EvP × Int) (e : Ending) (w' : World) : Prop := ∃ A' n' c', e = .returned (.tuple #[.slice A' n' c', .int .i64 R.2]) ∧ Evs w' A' n' c' R.1 ∧ n' ≤ c' ∧ c' ≤ 9223372036854775807 ∧ Below W.heap.size W w'
theorem evs_nil (w : World) : Evs w none 0 0 [] := ⟨⟨rfl, .inl ⟨rfl, rfl, rfl⟩⟩, rfl⟩
/-- A sheet's start, as a call lays it. -/
theorem sheet_start {W : World} {cs : Array Value} {A : Option Addr} {n c : Nat} {l : List EvP} (h : Evs W A n c l) (hnc : n ≤ c ∧ c ≤ 9223372036854775807) (hs : cs.size = 23) (x : EvP) {w1 : World} (hb : Below W.heap.size W w1) {t : TypeId} {g : Nat} (hg : w1.heap.size = g) :
    Shee (w1.alloc (.cells (shC cs (.slice A n c) x (.slice none 0 0)) t)) (w1.alloc (.cells (shC cs (.slice A n c) x (.slice none 0 0)) t)) g cs x A n c l none 0 0 [] := by
  subst hg
  refine Shee.start (Has.new _ _ _ rfl) hs ((h.below hb).below (bel_alloc (Below.refl _ _) _)) hnc fun hn0 a ha e => ?_
  obtain ⟨b, off, e2⟩ := h.form hn0
  have h' := h
  rw [e2] at h' ha
  injection ha with ha
  subst ha
  have := cell_lt (h'.cell hn0 (j := 0) (by omega))
  have := hb.size
  simp only at *
  omega
theorem Shee.bel {w0 w : World} {g : Nat} {cs : Array Value} {x : EvP} {A C : Option Addr} {n c m d : Nat} {l mv : List EvP} (h : Shee w0 w g cs x A n c l C m d mv) {W : World} (hb : Below W.heap.size W w0) (hg : W.heap.size ≤ g) : Below W.heap.size W w := by
  have k := h.k
  have := hb.size
  exact hb.trans ⟨k.os, k.tape, k.output, k.size, fun i hi => k.block i ⟨by omega, by omega⟩⟩
theorem Shee.has {w0 w : World} {g : Nat} {cs : Array Value} {x : EvP} {A C : Option Addr} {n c m d : Nat} {l mv : List EvP} (h : Shee w0 w g cs x A n c l C m d mv) {b : Nat} {cc : Array Value} (hb : Has w0 b cc) (hne : b ≠ g) : Has w b cc := by
  have hl := hb.size
  obtain ⟨t, q⟩ := hb
  exact ⟨t, (h.k.block b ⟨hl, hne⟩).trans q⟩
set_option maxHeartbeats 4000000 in
theorem apply_1 {cs : Array Value} {pl : Int} {nE nC nG nR : Nat} (hs : SetS cs pl nE nC nG nR) (A : Option Addr) (n c : Nat) (l : List EvP) (x : EvP) (W : World) (h : Evs W A n c l) (hnc : n ≤ c ∧ c ≤ 9223372036854775807) (hn : n ≤ 500) (hi : x.In) (b : Bool) (hb : decide (x.May pl nE nC nG nR) = b) :
    Calls Try.prog 10 #[.agg cs, .slice A n c, .agg (fixC 1 x)] W (GotE W (applyE b l 1 x)) := by
  have eg0 : ∀ args w, (callFunc 43 args).run Try.prog w = .ok (.enter 43 args) w := enters_of Try.func43 (by kernel_rfl) rfl
  have eg1 : ∀ args w, (callFunc 44 args).run Try.prog w = .ok (.enter 44 args) w := enters_of Try.func44 (by kernel_rfl) rfl
  have eg2 : ∀ args w, (callFunc 45 args).run Try.prog w = .ok (.enter 45 args) w := enters_of Try.func45 (by kernel_rfl) rfl
  have hs23 := hs.1
  obtain ⟨W1, hW1⟩ : ∃ W1, ((W.alloc (.cells cs 30)).alloc (.cells (fixC 1 x) 35)).alloc (.cells stC1 63) = W1 := ⟨_, rfl⟩
  have hS1 : W1.heap.size = W.heap.size + 3 := by rw [← hW1]; simp
  have hB1 : Below W.heap.size W W1 := by rw [← hW1]; exact bel_alloc (bel_alloc (bel_alloc (Below.refl _ _) _) _) _
  have hC1 : Has W1 W.heap.size cs := by rw [← hW1]; exact ((Has.new _ _ _ rfl).alloc _).alloc _
  have hF1 : Has W1 (W.heap.size + 1) (fixC 1 x) := by rw [← hW1]; exact (Has.new _ _ _ (by simp)).alloc _
  have hT1 : Has W1 (W.heap.size + 2) stC1 := by rw [← hW1]; exact Has.new _ _ _ (by simp)
  have HS0 := Lib.hid (sheet_start (t := 62) h hnc hs23 x hB1 hS1)
  have HO := Lib.hid (shC_one hs.2 A none n c 0 0 x)
  have HZ := Lib.hid (sh_size (E := .slice A n c) (x := x) (M := .slice none 0 0) hs23)
  have HH := Lib.hid hs
  have q0 := ((Has.new (W.alloc (.cells cs 30)) 35 (fixC 1 x) (s := W.heap.size + 1) (by simp))).cell 0 (v := .int .i64 1) rfl
  have HC := Lib.hid hC1
  have HF := Lib.hid hF1
  have HB := Lib.hid hB1
  have HS23 := Lib.hid hs23
  have HN := Lib.hid h.2
  have HT := Lib.hid hT1
  obtain ⟨R, hR⟩ : ∃ R, applyE b l 1 x = R := ⟨_, rfl⟩
  rw [hR]
  have HR := Lib.hid hR
  clear hC1 hF1 hT1 hB1 h hs hs23 hR
  generalize hfx : fixC 1 x = fx at *
  replace hfx := Lib.hid hfx
  go_enter Try.func10, Try.ntmps10
  go_wp2_with fail
  refine (steps_1 _).mono ?_
  rintro e w2 ⟨rfl, rfl⟩
  rw [hW1]
  have HL := Lib.hid (show (loadVar 33 ⟨W.heap.size + 1, 1, none⟩).run Try.prog W1 = .ok (.agg (evC x)) W1 from fix_loadE (k := 1) (by have := HF.out; rw [← hfx.out] at this; exact this))
  clear hW1 q0 HF hfx
  go_wp2_with (first | refine wpList_load_has (by rfl) _ rfl W.heap.size rfl cs HC.out HS23.out ?_ | refine wpList_exec (o := ⟨some 22, _, _, _, _, _⟩) rfl (exec_load_at _ rfl rfl HL.out) ?_ | refine wpList_build_sh HS23.out rfl rfl rfl rfl rfl ?_ | refine wpList_laid_sh (shC cs (.slice A n c) x (.slice none 0 0)) 9 _ _ rfl rfl rfl rfl rfl rfl rfl rfl HZ.out HO.out ?_ | fail)
  have hT0 := HT.out.alloc (.cells (shC cs (.slice A n c) x (.slice none 0 0)) 62)
  have HB0 := Lib.hid (bel_alloc HB.out (.cells (shC cs (.slice A n c) x (.slice none 0 0)) 62))
  obtain ⟨w0, hw0⟩ : ∃ w0, W1.alloc (.cells (shC cs (.slice A n c) x (.slice none 0 0)) 62) = w0 := ⟨_, rfl⟩
  rw [hw0] at HS0 hT0 HB0 ⊢
  have HT0 := Lib.hid hT0
  rw [hS1] at *
  clear hw0 HC HL HT HB hT0 HO HZ hS1 W1
  have c0 := HT0.out.cell 0 (v := .func (.func 43) #[] #[]) rfl
  have c0z := cell_lt c0
  refine wp_loop_rounds 4 ?_
  rw [rounds_succ]
  go_wp2_with fail
  refine (scheck_any HS0.out HH.out hi b hb).mono ?_
  rintro e w3 ⟨rfl, hs3⟩
  have HS3 := Lib.hid hs3
  have HT3 := Lib.hid (hs3.has HT0.out (by omega))
  clear c0 c0z HS0
  clear hs3 hb
  cases b with
  | false =>
    obtain rfl : R = ([], 80) := by rw [← HR.out]; simp [applyE]
    have HE := Lib.hid (HS3.out.bel HB0.out (by omega))
    clear HR HS3 HT3 HT0
    go_wp2
    go_ret2
    exact ⟨none, 0, 0, rfl, evs_nil _, by omega, by omega, HE.out⟩
  | true =>
    have c1 := HT3.out.cell 1 (v := .func (.func 44) #[] #[]) rfl
    have c1z := cell_lt c1
    go_wp2
    rw [rounds_succ]
    go_wp2_with fail
    refine (smiss_any HS3.out (by omega)).mono ?_
    rintro e w4 ⟨rfl, hs4⟩
    have HS4 := Lib.hid hs4
    have HT4 := Lib.hid (hs4.has HT0.out (by omega))
    clear c1 c1z HS3 HT3
    clear hs4
    cases hx : ixE l x.id with
    | some i =>
      obtain rfl : R = ([], 130) := by rw [← HR.out]; simp [applyE, hx]
      have HE := Lib.hid (HS4.out.bel HB0.out (by omega))
      clear HR HS4 HT4 HT0 hx
      go_wp2
      go_ret2
      exact ⟨none, 0, 0, rfl, evs_nil _, by omega, by omega, HE.out⟩
    | none =>
      obtain rfl : R = (sortE (l ++ [x]), 0) := by rw [← HR.out]; simp [applyE, hx]
      clear HR hx
      have c2 := HT4.out.cell 2 (v := .func (.func 45) #[] #[]) rfl
      have c2z := cell_lt c2
      go_wp2
      rw [rounds_succ]
      go_wp2_with fail
      refine (sput_any HS4.out (by omega) (by omega)).mono ?_
      rintro e w5 ⟨rfl, A5, c5, C5, d5, hs5⟩
      have HS5 := Lib.hid hs5
      clear c2 c2z HS4 HT4
      have p0 := hs5.h.cell 23 (sh_E hs5.hs)
      have pz := cell_lt p0
      clear hs5
      go_wp2
      rw [rounds_succ]
      go_wp2_with fail
      refine (esort_caps A5 (n + 1) c5 (l ++ [x]) _ HS5.out.ev (by omega)).mono ?_
      rintro e w9 ⟨A9, c9, rfl, hb9, he9, hc9⟩
      have HE := Lib.hid (bel_on (HS5.out.bel HB0.out (by omega)) hb9)
      have HV := Lib.hid he9
      clear p0 pz HS5 hb9 he9
      go_wp2
      go_ret2
      exact ⟨A9, _, c9, rfl, HV.out, hc9.1, hc9.2, HE.out⟩
set_option maxHeartbeats 4000000 in
theorem apply_2 {cs : Array Value} {pl : Int} {nE nC nG nR : Nat} (hs : SetS cs pl nE nC nG nR) (A : Option Addr) (n c : Nat) (l : List EvP) (x : EvP) (W : World) (h : Evs W A n c l) (hnc : n ≤ c ∧ c ≤ 9223372036854775807) (hn : n ≤ 500) (hi : x.In) (b : Bool) (hb : decide (x.May pl nE nC nG nR) = b) :
    Calls Try.prog 10 #[.agg cs, .slice A n c, .agg (fixC 2 x)] W (GotE W (applyE b l 2 x)) := by
  have eg0 : ∀ args w, (callFunc 46 args).run Try.prog w = .ok (.enter 46 args) w := enters_of Try.func46 (by kernel_rfl) rfl
  have hs23 := hs.1
  obtain ⟨W1, hW1⟩ : ∃ W1, ((W.alloc (.cells cs 30)).alloc (.cells (fixC 2 x) 35)).alloc (.cells stC2 63) = W1 := ⟨_, rfl⟩
  have hS1 : W1.heap.size = W.heap.size + 3 := by rw [← hW1]; simp
  have hB1 : Below W.heap.size W W1 := by rw [← hW1]; exact bel_alloc (bel_alloc (bel_alloc (Below.refl _ _) _) _) _
  have hC1 : Has W1 W.heap.size cs := by rw [← hW1]; exact ((Has.new _ _ _ rfl).alloc _).alloc _
  have hF1 : Has W1 (W.heap.size + 1) (fixC 2 x) := by rw [← hW1]; exact (Has.new _ _ _ (by simp)).alloc _
  have hT1 : Has W1 (W.heap.size + 2) stC2 := by rw [← hW1]; exact Has.new _ _ _ (by simp)
  have HS0 := Lib.hid (sheet_start (t := 62) h hnc hs23 x hB1 hS1)
  have HO := Lib.hid (shC_one hs.2 A none n c 0 0 x)
  have HZ := Lib.hid (sh_size (E := .slice A n c) (x := x) (M := .slice none 0 0) hs23)
  have HH := Lib.hid hs
  have q0 := ((Has.new (W.alloc (.cells cs 30)) 35 (fixC 2 x) (s := W.heap.size + 1) (by simp))).cell 0 (v := .int .i64 2) rfl
  have HC := Lib.hid hC1
  have HF := Lib.hid hF1
  have HB := Lib.hid hB1
  have HS23 := Lib.hid hs23
  have HN := Lib.hid h.2
  have HT := Lib.hid hT1
  obtain ⟨R, hR⟩ : ∃ R, applyE b l 2 x = R := ⟨_, rfl⟩
  rw [hR]
  have HR := Lib.hid hR
  clear hC1 hF1 hT1 hB1 h hs hs23 hR
  generalize hfx : fixC 2 x = fx at *
  replace hfx := Lib.hid hfx
  go_enter Try.func10, Try.ntmps10
  go_wp2_with fail
  refine (steps_2 _).mono ?_
  rintro e w2 ⟨rfl, rfl⟩
  rw [hW1]
  have HL := Lib.hid (show (loadVar 33 ⟨W.heap.size + 1, 1, none⟩).run Try.prog W1 = .ok (.agg (evC x)) W1 from fix_loadE (k := 2) (by have := HF.out; rw [← hfx.out] at this; exact this))
  clear hW1 q0 HF hfx
  go_wp2_with (first | refine wpList_load_has (by rfl) _ rfl W.heap.size rfl cs HC.out HS23.out ?_ | refine wpList_exec (o := ⟨some 22, _, _, _, _, _⟩) rfl (exec_load_at _ rfl rfl HL.out) ?_ | refine wpList_build_sh HS23.out rfl rfl rfl rfl rfl ?_ | refine wpList_laid_sh (shC cs (.slice A n c) x (.slice none 0 0)) 9 _ _ rfl rfl rfl rfl rfl rfl rfl rfl HZ.out HO.out ?_ | fail)
  have hT0 := HT.out.alloc (.cells (shC cs (.slice A n c) x (.slice none 0 0)) 62)
  have HB0 := Lib.hid (bel_alloc HB.out (.cells (shC cs (.slice A n c) x (.slice none 0 0)) 62))
  obtain ⟨w0, hw0⟩ : ∃ w0, W1.alloc (.cells (shC cs (.slice A n c) x (.slice none 0 0)) 62) = w0 := ⟨_, rfl⟩
  rw [hw0] at HS0 hT0 HB0 ⊢
  have HT0 := Lib.hid hT0
  rw [hS1] at *
  clear hw0 HC HL HT HB hT0 HO HZ hS1 W1
  have c0 := HT0.out.cell 0 (v := .func (.func 46) #[] #[]) rfl
  have c0z := cell_lt c0
  refine wp_loop_rounds 2 ?_
  rw [rounds_succ]
  go_wp2_with fail
  cases hx : ixE l x.id with
  | none =>
    obtain rfl : R = ([], 131) := by rw [← HR.out]; simp [applyE, hx]
    refine (sdrop_none HS0.out (by omega) hx).mono ?_
    rintro e w3 ⟨rfl, hs3⟩
    have HS3 := Lib.hid hs3
    clear c0 c0z HS0 hs3
    have HE := Lib.hid (HS3.out.bel HB0.out (by omega))
    clear HR HS3 HT0 hx
    go_wp2
    go_ret2
    exact ⟨none, 0, 0, rfl, evs_nil _, by omega, by omega, HE.out⟩
  | some i =>
    obtain rfl : R = (sortE (rmE l i), 0) := by rw [← HR.out]; simp [applyE, hx]
    have hil := (ixE_some hx).1
    rw [HN.out] at hil
    refine (sdrop_some HS0.out (by omega) (by omega) hx).mono ?_
    rintro e w3 ⟨rfl, A4, c4, C4, d4, hs3⟩
    have HS3 := Lib.hid hs3
    clear c0 c0z HS0 hx HR
    have p0 := hs3.h.cell 23 (sh_E hs3.hs)
    have pz := cell_lt p0
    clear hs3
    go_wp2
    rw [rounds_succ]
    go_wp2_with fail
    refine (esort_caps A4 (n - 1) c4 (rmE l i) _ HS3.out.ev (by omega)).mono ?_
    rintro e w9 ⟨A9, c9, rfl, hb9, he9, hc9⟩
    have HE := Lib.hid (bel_on (HS3.out.bel HB0.out (by omega)) hb9)
    have HV := Lib.hid he9
    clear p0 pz HS3 hb9 he9
    go_wp2
    go_ret2
    exact ⟨A9, _, c9, rfl, HV.out, hc9.1, hc9.2, HE.out⟩
set_option maxHeartbeats 4000000 in
theorem apply_3 {cs : Array Value} {pl : Int} {nE nC nG nR : Nat} (hs : SetS cs pl nE nC nG nR) (A : Option Addr) (n c : Nat) (l : List EvP) (x : EvP) (W : World) (h : Evs W A n c l) (hnc : n ≤ c ∧ c ≤ 9223372036854775807) (hn : n ≤ 500) (hi : x.In) (b : Bool) (hb : decide (x.May pl nE nC nG nR) = b) :
    Calls Try.prog 10 #[.agg cs, .slice A n c, .agg (fixC 3 x)] W (GotE W (applyE b l 3 x)) := by
  have eg0 : ∀ args w, (callFunc 43 args).run Try.prog w = .ok (.enter 43 args) w := enters_of Try.func43 (by kernel_rfl) rfl
  have eg1 : ∀ args w, (callFunc 46 args).run Try.prog w = .ok (.enter 46 args) w := enters_of Try.func46 (by kernel_rfl) rfl
  have eg2 : ∀ args w, (callFunc 45 args).run Try.prog w = .ok (.enter 45 args) w := enters_of Try.func45 (by kernel_rfl) rfl
  have hs23 := hs.1
  obtain ⟨W1, hW1⟩ : ∃ W1, ((W.alloc (.cells cs 30)).alloc (.cells (fixC 3 x) 35)).alloc (.cells stC3 63) = W1 := ⟨_, rfl⟩
  have hS1 : W1.heap.size = W.heap.size + 3 := by rw [← hW1]; simp
  have hB1 : Below W.heap.size W W1 := by rw [← hW1]; exact bel_alloc (bel_alloc (bel_alloc (Below.refl _ _) _) _) _
  have hC1 : Has W1 W.heap.size cs := by rw [← hW1]; exact ((Has.new _ _ _ rfl).alloc _).alloc _
  have hF1 : Has W1 (W.heap.size + 1) (fixC 3 x) := by rw [← hW1]; exact (Has.new _ _ _ (by simp)).alloc _
  have hT1 : Has W1 (W.heap.size + 2) stC3 := by rw [← hW1]; exact Has.new _ _ _ (by simp)
  have HS0 := Lib.hid (sheet_start (t := 62) h hnc hs23 x hB1 hS1)
  have HO := Lib.hid (shC_one hs.2 A none n c 0 0 x)
  have HZ := Lib.hid (sh_size (E := .slice A n c) (x := x) (M := .slice none 0 0) hs23)
  have HH := Lib.hid hs
  have q0 := ((Has.new (W.alloc (.cells cs 30)) 35 (fixC 3 x) (s := W.heap.size + 1) (by simp))).cell 0 (v := .int .i64 3) rfl
  have HC := Lib.hid hC1
  have HF := Lib.hid hF1
  have HB := Lib.hid hB1
  have HS23 := Lib.hid hs23
  have HN := Lib.hid h.2
  have HT := Lib.hid hT1
  obtain ⟨R, hR⟩ : ∃ R, applyE b l 3 x = R := ⟨_, rfl⟩
  rw [hR]
  have HR := Lib.hid hR
  clear hC1 hF1 hT1 hB1 h hs hs23 hR
  generalize hfx : fixC 3 x = fx at *
  replace hfx := Lib.hid hfx
  go_enter Try.func10, Try.ntmps10
  go_wp2_with fail
  refine (steps_3 _).mono ?_
  rintro e w2 ⟨rfl, rfl⟩
  rw [hW1]
  have HL := Lib.hid (show (loadVar 33 ⟨W.heap.size + 1, 1, none⟩).run Try.prog W1 = .ok (.agg (evC x)) W1 from fix_loadE (k := 3) (by have := HF.out; rw [← hfx.out] at this; exact this))
  clear hW1 q0 HF hfx
  go_wp2_with (first | refine wpList_load_has (by rfl) _ rfl W.heap.size rfl cs HC.out HS23.out ?_ | refine wpList_exec (o := ⟨some 22, _, _, _, _, _⟩) rfl (exec_load_at _ rfl rfl HL.out) ?_ | refine wpList_build_sh HS23.out rfl rfl rfl rfl rfl ?_ | refine wpList_laid_sh (shC cs (.slice A n c) x (.slice none 0 0)) 9 _ _ rfl rfl rfl rfl rfl rfl rfl rfl HZ.out HO.out ?_ | fail)
  have hT0 := HT.out.alloc (.cells (shC cs (.slice A n c) x (.slice none 0 0)) 62)
  have HB0 := Lib.hid (bel_alloc HB.out (.cells (shC cs (.slice A n c) x (.slice none 0 0)) 62))
  obtain ⟨w0, hw0⟩ : ∃ w0, W1.alloc (.cells (shC cs (.slice A n c) x (.slice none 0 0)) 62) = w0 := ⟨_, rfl⟩
  rw [hw0] at HS0 hT0 HB0 ⊢
  have HT0 := Lib.hid hT0
  rw [hS1] at *
  clear hw0 HC HL HT HB hT0 HO HZ hS1 W1
  have c0 := HT0.out.cell 0 (v := .func (.func 43) #[] #[]) rfl
  have c0z := cell_lt c0
  refine wp_loop_rounds 4 ?_
  rw [rounds_succ]
  go_wp2_with fail
  refine (scheck_any HS0.out HH.out hi b hb).mono ?_
  rintro e w3 ⟨rfl, hs3⟩
  have HS3 := Lib.hid hs3
  have HT3 := Lib.hid (hs3.has HT0.out (by omega))
  clear c0 c0z HS0
  clear hs3 hb
  cases b with
  | false =>
    obtain rfl : R = ([], 80) := by rw [← HR.out]; simp [applyE]
    have HE := Lib.hid (HS3.out.bel HB0.out (by omega))
    clear HR HS3 HT3 HT0
    go_wp2
    go_ret2
    exact ⟨none, 0, 0, rfl, evs_nil _, by omega, by omega, HE.out⟩
  | true =>
    have c1 := HT3.out.cell 1 (v := .func (.func 46) #[] #[]) rfl
    have c1z := cell_lt c1
    go_wp2
    rw [rounds_succ]
    go_wp2_with fail
    cases hx : ixE l x.id with
    | none =>
      obtain rfl : R = ([], 131) := by rw [← HR.out]; simp [applyE, hx]
      refine (sdrop_none HS3.out (by omega) hx).mono ?_
      rintro e w4 ⟨rfl, hs4⟩
      have HS4 := Lib.hid hs4
      clear c1 c1z HS3 hs4
      have HE := Lib.hid (HS4.out.bel HB0.out (by omega))
      clear HR HS4 HT3 HT0 hx
      go_wp2
      go_ret2
      exact ⟨none, 0, 0, rfl, evs_nil _, by omega, by omega, HE.out⟩
    | some i =>
      obtain rfl : R = (sortE (rmE l i ++ [x]), 0) := by rw [← HR.out]; simp [applyE, hx]
      have hil := (ixE_some hx).1
      rw [HN.out] at hil
      refine (sdrop_some HS3.out (by omega) (by omega) hx).mono ?_
      rintro e w4 ⟨rfl, A4, c4, C4, d4, hs4⟩
      have HS4 := Lib.hid hs4
      have HT4 := Lib.hid (hs4.has HT0.out (by omega))
      clear c1 c1z HS3 HT3 hx HR
      clear hs4
      have c2 := HT4.out.cell 2 (v := .func (.func 45) #[] #[]) rfl
      have c2z := cell_lt c2
      go_wp2
      rw [rounds_succ]
      go_wp2_with fail
      refine (sput_any HS4.out (by omega) (by omega)).mono ?_
      rintro e w5 ⟨rfl, A5, c5, C5, d5, hs5⟩
      have HS5 := Lib.hid hs5
      clear c2 c2z HS4 HT4
      have p0 := hs5.h.cell 23 (sh_E hs5.hs)
      have pz := cell_lt p0
      clear hs5
      go_wp2
      rw [rounds_succ]
      go_wp2_with fail
      refine (esort_caps A5 (n - 1 + 1) c5 (rmE l i ++ [x]) _ HS5.out.ev (by omega)).mono ?_
      rintro e w9 ⟨A9, c9, rfl, hb9, he9, hc9⟩
      have HE := Lib.hid (bel_on (HS5.out.bel HB0.out (by omega)) hb9)
      have HV := Lib.hid he9
      clear p0 pz HS5 hb9 he9
      go_wp2
      go_ret2
      exact ⟨A9, _, c9, rfl, HV.out, hc9.1, hc9.2, HE.out⟩
set_option maxHeartbeats 2000000 in
theorem apply_0 {cs : Array Value} (hs23 : cs.size = 23) (A : Option Addr) (n c : Nat) (l : List EvP) (k : Int) (x : EvP) (W : World) (h1 : k ≠ 1) (h2 : k ≠ 2) (h3 : k ≠ 3) (b : Bool) :
    Calls Try.prog 10 #[.agg cs, .slice A n c, .agg (fixC k x)] W (GotE W (applyE b l k x)) := by
  rw [show applyE b l k x = ([], 80) by unfold applyE; rw [if_neg h1, if_neg h2, if_neg h3]]
  have HS := Lib.hid (fun w => steps_0 k h1 h2 h3 w)
  have hB1 := bel_alloc (bel_alloc (Below.refl W.heap.size W) (.cells cs 30)) (.cells (fixC k x) 35)
  have q0 := ((Has.new (W.alloc (.cells cs 30)) 35 (fixC k x) (s := W.heap.size + 1) (by simp))).cell 0 (v := .int .i64 k) rfl
  have HB := Lib.hid hB1
  clear h1 h2 h3 hB1
  generalize fixC k x = fx at *
  go_enter Try.func10, Try.ntmps10
  go_wp2_with fail
  refine (HS.out _).mono ?_
  rintro e w2 ⟨rfl, rfl⟩
  go_wp2
  go_ret2
  exact ⟨none, 0, 0, rfl, evs_nil _, by omega, by omega, HB.out⟩
theorem apply_any {cs : Array Value} {pl : Int} {nE nC nG nR : Nat} (hs : SetS cs pl nE nC nG nR) (A : Option Addr) (n c : Nat) (l : List EvP) (k : Int) (x : EvP) (W : World) (h : Evs W A n c l) (hnc : n ≤ c ∧ c ≤ 9223372036854775807) (hn : n ≤ 500) (hi : x.In) (b : Bool) (hb : decide (x.May pl nE nC nG nR) = b) :
    Calls Try.prog 10 #[.agg cs, .slice A n c, .agg (fixC k x)] W (GotE W (applyE b l k x)) := by
  by_cases h1 : k = 1
  · subst h1; exact apply_1 hs A n c l x W h hnc hn hi b hb
  · by_cases h2 : k = 2
    · subst h2; exact apply_2 hs A n c l x W h hnc hn hi b hb
    · by_cases h3 : k = 3
      · subst h3; exact apply_3 hs A n c l x W h hnc hn hi b hb
      · exact apply_0 hs.1 A n c l k x W h1 h2 h3 b
end Go.Proofs.Ytedkhjbnjkcemaa
