/-
  What package perf's own steps make: plain facts, continued.
  The document's own answer of layer 18: the goals of a week's tasks.
  Perf's own steps: the week's tasks.
  Perf's own steps: the first task of each number.
  Perf's own steps: the goals of the week's tasks.
  Package perf's Tier.
-/
import Derived.Test.YtpgncbhahocmbaaGreatQba
import Derived.Test.YtpgncbhahocmbaaGreatQbb
import Derived.Test.YtpgncbhahocmbaaGreatQai
import Derived.Test.YtpgncbhahocmbaaGreatQak
import Derived.Test.YtpgncbhahocmbaaGreatQay
import Derived.Test.YtpgncbhahocmbaaGreatQah
import Derived.Test.YtpgncbhahocmbaaGreatQao
import Derived.Deep.RegionHeld3
import Derived.Test.YtpgncbhahocmbaaGreatProg
import Derived.Test.YtpgncbhahocmbaaGreatQab
import Derived.Test.YtpgncbhahocmbaaGreatQac
import Derived.StillTailTactics
import Derived.Test.YtpgncbhahocmbaaGreatQan
import Derived.Deep.DeepCutAuto
import Derived.Test.YtpgncbhahocmbaaGreatQaa
import Derived.OpenShut
import Derived.Laws.Cover1
import Derived.WalkKit
import Derived.WalkLawsBesides
import Derived.Lib.Hide
import Derived.IntWalk
import Derived.Lib.SliceRun
import Derived.WalkMore
import Derived.ScopeJumps
import Derived.Laws.BytesArg
import Derived.Laws.Slices
import Derived.RegionTactic
import Derived.Test.YtpgncbhahocmbaaGreatQas
import Derived.Test.YtpgncbhahocmbaaGreatQap
import Derived.Test.YtpgncbhahocmbaaGreatQav
import Derived.Test.YtpgncbhahocmbaaGreatQau
import Derived.Test.YtpgncbhahocmbaaGreatQar
import Derived.Test.YtpgncbhahocmbaaGreatQad
import Derived.Test.YtpgncbhahocmbaaGreatQaz
namespace Go.Proofs.YtpgncbhahocmbaaGreat
set_option linter.unusedVariables false
set_option linter.unusedSimpArgs false

/-! ### What Of makes -/
def cutN (X : Rat2) : Rat2 := if X.n < 0 then ⟨0, 1, 0⟩ else ⟨X.n, X.d, 0⟩
def lastR (el : Int) (X : Rat2) : Rat2 := if 0 < el then divR X.n X.d (mkR el 1).n (mkR el 1).d else ⟨X.n, X.d, 0⟩
def lastC (el c : Int) (X : Rat2) : Int := if 0 < el then fstC (fstC c (mkR el 1).c) (lastR el X).c else c
def codeP (F : Int) (gs : List Rat2) (lost : Nat) (el : Int) : DoneP :=
  let S := addR ⟨0, 1, fstC 0 (wrongP gs)⟩ (if wrongP gs = 0 then ratsP gs else [])
  let M := mkR (F * lost) 1
  let X := minusR S.n S.d M.n M.d
  let R := cutN X
  let c := lastC el (fstC (fstC S.c M.c) X.c) R
  if c ≠ 0 then ⟨0, 0, el, 0, 0, c⟩ else ⟨R.n, R.d, el, (lastR el R).n, (lastR el R).d, 0⟩
theorem fstC_bad {e : Int} (h : e ≠ 0) (c : Int) : fstC e c = e := by unfold fstC; rw [if_neg h]
theorem rats_may {gs : List Rat2} (h : ∀ g ∈ gs, mayB g.n g.d = true) : allMay (ratsP gs) = true := by
  unfold allMay ratsP
  rw [List.all_map, List.all_eq_true]
  exact h
theorem lastC_bad {el c : Int} (h : c ≠ 0) (X : Rat2) : lastC el c X = c := by
  unfold lastC
  split
  · rw [fstC_bad (e := c) h, fstC_bad h]
  · rfl
theorem code_done {F : Int} {gs : List Rat2} {lost : Nat} {el : Int} (hF : 0 ≤ F * (lost : Int) ∧ F * (lost : Int) ≤ 2147483647) (hg : ∀ g ∈ gs, g.c = 0 → mayB g.n g.d = true) (h0 : 0 ≤ el) (h00 : el = 0 → gs = []) : codeP F gs lost el = doneP el (wrongP gs) (earnP F gs lost) := by
  unfold codeP doneP
  simp only
  by_cases hw : wrongP gs = 0
  · have hgs : ∀ g ∈ gs, mayB g.n g.d = true := fun g hm => hg g hm (wrong_none hw g hm)
    have hA := rats_may hgs
    have hS : sumR (ratsP gs) = sumRGo ⟨0, 1, 0⟩ (ratsP gs) := if_pos hA
    rw [hw]
    simp only [ne_eq, not_true_eq_false, if_false, if_true, zero_fstC]
    obtain ⟨k1, k2⟩ := addR_go (ratsP gs) ⟨0, 1, 0⟩ rfl
    rw [← hS] at k1 k2
    by_cases hs : (sumR (ratsP gs)).c = 0
    · rw [k2 hs]
      have hM : mkR (F * (lost : Int)) 1 = ⟨F * (lost : Int), 1, 0⟩ := mk_neg1 (by omega)
      have hE : earnP F gs lost = cutR (minusR (sumR (ratsP gs)).n (sumR (ratsP gs)).d (F * (lost : Int)) 1) := by
        unfold earnP
        rw [if_neg (by rw [hs]; simp), hM]
        simp
      rw [hE, hM]
      simp only
      generalize hX : minusR (sumR (ratsP gs)).n (sumR (ratsP gs)).d (F * (lost : Int)) 1 = X
      rw [hs, zero_fstC, zero_fstC]
      by_cases hc : X.c = 0
      · have hR : cutR X = cutN X := by
          unfold cutR cutN
          rw [if_neg (by simpa using hc)]
          split
          · rfl
          · cases X; simp_all
        rw [hR, hc]
        have hRc : (cutN X).c = 0 := by unfold cutN; split <;> rfl
        rw [hRc]
        simp only [ne_eq, not_true_eq_false, if_false]
        by_cases he : el = 0
        · subst he
          have := h00 rfl
          subst this
          have hq : (cutN X).n = 0 ∧ (cutN X).d = 1 := by
            unfold cutN
            split
            · exact ⟨rfl, rfl⟩
            · rename_i hn
              have hS0 : sumR (ratsP []) = ⟨0, 1, 0⟩ := rfl
              rw [hS0] at hX
              have hm1 : minusR 0 1 (F * (lost : Int)) 1 = mkR (0 - F * (lost : Int) * 1) 1 := minus_one (by decide) (by omega)
              rw [hm1, mk_neg1 (by omega)] at hX
              subst hX
              have hn2 : ¬ (0 - F * (lost : Int) * 1 < 0) := hn
              have h1 := hF.1
              refine ⟨?_, rfl⟩
              show 0 - F * (lost : Int) * 1 = 0
              omega
          unfold lastC lastR
          simp only [Int.lt_irrefl, if_false]
          rw [hq.1, hq.2]
          simp
        · have hp : 0 < el := by omega
          unfold lastC
          rw [if_pos hp, zero_fstC]
          have hL : lastR el (cutN X) = divR (cutN X).n (cutN X).d (mkR el 1).n (mkR el 1).d := by unfold lastR; rw [if_pos hp]
          rw [hL, if_neg he]
          by_cases h1 : (mkR el 1).c = 0
          · rw [h1, zero_fstC]
            simp
          · rw [fstC_bad h1]
            simp [h1]
      · rw [lastC_bad hc]
        have hR : cutR X = ⟨0, 0, X.c⟩ := by unfold cutR; rw [if_pos hc]
        rw [hR]
        simp [hc]
    · have hE : earnP F gs lost = ⟨0, 0, (sumR (ratsP gs)).c⟩ := by unfold earnP; rw [if_pos hs]
      rw [hE, k1, fstC_bad hs, fstC_bad hs, lastC_bad hs]
      simp [hs]
  · rw [if_neg hw]
    simp only [addR, zero_fstC]
    rw [fstC_bad hw, fstC_bad hw, lastC_bad hw]
    simp [hw]
end Go.Proofs.YtpgncbhahocmbaaGreat

namespace Go.Proofs.YtpgncbhahocmbaaGreat
open Go.RowKit
set_option linter.unusedVariables false
set_option linter.unusedSimpArgs false
set_option maxRecDepth 20000

theorem rats_row {w : World} {base n c : Nat} {A : Option Addr} {gs : List Rat2} (h : TRow 24 2 w base A n c (gs.map fun g => [g.n, g.d])) (hl : gs.length = n) (hb : ∀ g ∈ gs, In64 g.n ∧ In64 g.d) : Rats w A (ratsP gs) := by
  have T := TRow.tab h (by simpa using hl) (fun r hr => by obtain ⟨g, _, rfl⟩ := List.mem_map.1 hr; rfl) (fun r hr z hz => by
    obtain ⟨g, hg, rfl⟩ := List.mem_map.1 hr
    have := hb g hg
    simp only [List.mem_cons, List.not_mem_nil, or_false] at hz
    rcases hz with rfl | rfl
    · exact this.1
    · exact this.2)
  intro k hk
  have hk' : k < n := by simpa [ratsP, hl] using hk
  obtain ⟨b, off, rfl⟩ := rows_form T.sl (by omega) (by omega)
  have c0 := T.cell (j := 0) hk' (by omega)
  have c1 := T.cell (j := 1) hk' (by omega)
  have hg := hb (gs[k]'(by omega)) (List.getElem_mem _)
  have e0 : ((gs.map fun g => [g.n, g.d]).getD k []).getD 0 0 = (gs[k]'(by omega)).n := by simp [List.getD, show k < gs.length by omega]
  have e1 : ((gs.map fun g => [g.n, g.d]).getD k []).getD 1 0 = (gs[k]'(by omega)).d := by simp [List.getD, show k < gs.length by omega]
  have e2 : (ratsP gs).getD k (0, 0) = ((gs[k]'(by omega)).n, (gs[k]'(by omega)).d) := by simp [ratsP, List.getD, show k < gs.length by omega]
  rw [e2]
  rw [e0] at c0
  rw [e1] at c1
  exact ⟨b, off, rfl, c0, c1, hg.1.1, hg.1.2, hg.2.1, hg.2.2⟩
theorem goal_in64 {s : SetP} {e : EvP} : In64 (goalE s e).n ∧ In64 (goalE s e).d := by
  rcases goalE_three (s := s) (e := e) rfl with q | q | q
  · have := may_bd q.2.1
    unfold In64
    omega
  · rw [q.1]; unfold In64; simp
  · rw [q.1]; unfold In64; simp
theorem take_ofwk (k : Int) (S : List SegP) (i : Nat) (h : i < S.length) : (S.take (i + 1)).filter (ofWk k) = (S.take i).filter (ofWk k) ++ (if ofWk k (S.getD i SegP.none) = true then [S.getD i SegP.none] else []) := by
  rw [List.take_succ_eq_append_getElem h, List.filter_append]
  congr 1
  simp [List.getD, h, List.filter_cons]
end Go.Proofs.YtpgncbhahocmbaaGreat

namespace Go.Proofs.YtpgncbhahocmbaaGreat
open Go.RowKit
set_option linter.unusedVariables false
set_option linter.unusedSimpArgs false
set_option maxRecDepth 20000

set_option maxHeartbeats 8000000 in
theorem ptasks_c {w : World} {s : SetP} {cs : Array Value} (hW : SetW w s cs) (A : Option Addr) (n c : Nat) (l : List EvP) (wk week : Int) (h : Evs w A n c l) (hn : n ≤ 800) (hIn : ∀ e ∈ l, e.In) :
    Calls Tryz.prog 31 #[.agg cs, .slice A n c, .int .i64 wk, .int .i64 week] w fun e w' => ∃ B q d, e = .returned (.slice B q d) ∧ Below w.heap.size w w' ∧ Segs w' B q d (tasksP s wk week l) ∧ q ≤ 1000 := by
  have HZ := Lib.hid hW.size
  have hb0 := bel_alloc (Below.refl w.heap.size w) (.cells cs 30)
  have HG0 := Lib.hid (Has.new w 30 cs rfl)
  have HW0 := Lib.hid (hW.below hb0)
  have HE0 := Lib.hid (h.below hb0)
  have HBB := Lib.hid hb0
  have hlen := h.2
  have HST := Lib.hid (fun W (hs : SetW W s cs) (hE : Evs W A n c l) => stream_any s cs W hs A n c l hE (by omega) hIn wk)
  have hSL := segsOf_len s wk l
  obtain ⟨S, hS⟩ : ∃ S, segsOf s wk l = S := ⟨_, rfl⟩
  obtain ⟨m, hm⟩ : ∃ m, S.length = m := ⟨_, rfl⟩
  have HTS : Hid (tasksP s wk week l = S.filter (ofWk week)) := by show _ = _; unfold tasksP; rw [hS]
  rw [HTS.out]
  rw [hS] at HST hSL
  rw [hm] at hSL
  have hm8 : m ≤ 1000 := by omega
  clear hW h hIn hS HTS hb0 hSL
  go_enter Tryz.func31, Tryz.ntmps31
  go_wp2_with (refine wpList_exec (o := ⟨some 15, _, _, _, _, _⟩) (by rfl) (exec_load_st _ rfl rfl HG0.out HZ.out) ?_)
  generalize w.alloc (.cells cs 30) = w0 at *
  refine (HST.out _ HW0.out HE0.out).mono ?_
  rintro e w1 ⟨A1, c1, B1, d1, rfl, hT⟩
  rw [hm]
  have HL : Hid (Segs w1 A1 m c1 S) := ⟨by rw [← hm]; exact Sl.of_own hT.a, hm⟩
  have HLN := Lib.hid hm
  have HB1 := Lib.hid (bel_on HBB.out hT.bel)
  clear hT hm HG0 HW0 HE0 HST HBB
  go_wp2
  go_loopw [9, 23] (fun s9 s23 wr => ∃ (k q d : Nat) (B : Option Addr), k ≤ m ∧ q ≤ k ∧ s9 = .slice B q d ∧ s23 = .int .i64 k ∧ Hid (((S.take k).filter (ofWk week)).length = q) ∧ Hid (SRow wr w1.heap.size B q d ((S.take k).filter (ofWk week))) ∧ Hid (Below w1.heap.size w1 wr)) (fun _ i _ => m - (intOf i).toNat)
  case atStart => exact ⟨0, 0, 0, none, Nat.zero_le _, Nat.le_refl _, rfl, rfl, Lib.hid (by simp), Lib.hid (by rw [List.take_zero]; exact TRow.nil _ _), Lib.hid (Below.refl _ _)⟩
  case round =>
    obtain ⟨k, q, d, B, hk, hqk, rfl, rfl, HQ, HR, HW⟩ := hrel
    by_cases hlt : k < m
    · have HLr := Lib.hid (HL.out.below HW.out)
      obtain ⟨ba, oa, rfl⟩ := HLr.out.form (by omega)
      obtain ⟨x, hx⟩ : ∃ x, S.getD k SegP.none = x := ⟨_, rfl⟩
      obtain ⟨z0, z1, z2, z3, z4⟩ := segs_num HLr.out hlt x hx
      have zl := cell_lt z0
      have HNX := Lib.hid (take_ofwk week S k (by rw [HLN.out]; exact hlt))
      rw [hx] at HNX
      have i0 : (0 : Int) ≤ (k : Int) := by omega
      have i1 : (k : Int) < (m : Int) := by omega
      have HBA := Lib.hid (bel_on HW.out (bel_alloc (Below.refl wr.heap.size wr) (.cells #[.int .i64 x.fr, .int .i64 x.to, .int .i64 x.kd, .int .i64 x.id, .int .i64 x.cd] 54)))
      clear hx HLr
      by_cases g1 : x.kd = 1
      · have g1' : (x.kd == 1) = true := by simpa using g1
        by_cases g2 : weekP x.fr = week
        · have g2' : (weekP x.fr == week) = true := by simpa using g2
          have e1 : (S.take (k + 1)).filter (ofWk week) = (S.take k).filter (ofWk week) ++ [x] := HNX.out.trans (by rw [if_pos (by unfold ofWk; simp [g1, g2])])
          have HP : Hid (((S.take (k + 1)).filter (ofWk week)).length = q + 1) := by show _ = _; rw [e1, List.length_append, HQ.out]; rfl
          obtain ⟨A9, c9, w9, hr9, row9, kp9⟩ := srow_more (HR.out.alloc (.cells #[.int .i64 x.fr, .int .i64 x.to, .int .i64 x.kd, .int .i64 x.id, .int .i64 x.cd] 54)) x (by omega) HBA.out.size (s := wr.heap.size + 1) (by simp)
          rw [← e1] at row9
          have HR9 := Lib.hid hr9
          have HRW9 := Lib.hid row9
          have HW9 := Lib.hid (below_kept0 HBA.out kp9)
          clear hr9 row9 kp9 e1 HNX HQ HR HW g1 g2
          go_wp2_with fail
          refine (week_any _ _).mono ?_
          rintro e w' ⟨rfl, rfl⟩
          go_wp2_with (at_builtin; refine wpList_append_run (o := ⟨some 40, _, _, _, _, _⟩) HR9.out rfl rfl rfl rfl ?_)
          go_roundw
          case rel => exact ⟨k + 1, q + 1, c9, A9, by omega, by omega, rfl, by go_num, HP, HRW9, HW9⟩
          case measure => simp [intOf]; omega
        · have g2' : (weekP x.fr == week) = false := beq_eq_false_iff_ne.2 g2
          have e1 : (S.take (k + 1)).filter (ofWk week) = (S.take k).filter (ofWk week) := HNX.out.trans (by rw [if_neg (by unfold ofWk; simp [g2]), List.append_nil])
          have HP : Hid (((S.take (k + 1)).filter (ofWk week)).length = q) := by show _ = _; rw [e1]; exact HQ.out
          have HRP : Hid (SRow (wr.alloc (.cells #[.int .i64 x.fr, .int .i64 x.to, .int .i64 x.kd, .int .i64 x.id, .int .i64 x.cd] 54)) w1.heap.size B q d ((S.take (k + 1)).filter (ofWk week))) := by show SRow _ _ _ _ _ _; rw [e1]; exact HR.out.alloc _
          clear e1 HNX HQ HR HW g1 g2
          go_wp2_with fail
          refine (week_any _ _).mono ?_
          rintro e w' ⟨rfl, rfl⟩
          go_wp2
          go_roundw
          case rel => exact ⟨k + 1, q, d, B, by omega, by omega, rfl, by go_num, HP, HRP, HBA⟩
          case measure => simp [intOf]; omega
      · have g1' : (x.kd == 1) = false := beq_eq_false_iff_ne.2 g1
        have e1 : (S.take (k + 1)).filter (ofWk week) = (S.take k).filter (ofWk week) := HNX.out.trans (by rw [if_neg (by unfold ofWk; simp [g1]), List.append_nil])
        have HP : Hid (((S.take (k + 1)).filter (ofWk week)).length = q) := by show _ = _; rw [e1]; exact HQ.out
        have HRP : Hid (SRow (wr.alloc (.cells #[.int .i64 x.fr, .int .i64 x.to, .int .i64 x.kd, .int .i64 x.id, .int .i64 x.cd] 54)) w1.heap.size B q d ((S.take (k + 1)).filter (ofWk week))) := by show SRow _ _ _ _ _ _; rw [e1]; exact HR.out.alloc _
        clear e1 HNX HQ HR HW g1
        go_wp2
        go_roundw
        case rel => exact ⟨k + 1, q, d, B, by omega, by omega, rfl, by go_num, HP, HRP, HBA⟩
        case measure => simp [intOf]; omega
    · obtain rfl : k = m := by omega
      have e : S.take k = S := List.take_of_length_le (by rw [HLN.out]; omega)
      rw [e] at HR HQ
      have HE := Lib.hid (bel_on HB1.out HW.out)
      have HSG : Hid (Segs wr B q d (S.filter (ofWk week))) := ⟨Sl.of_own HR.out, HQ.out⟩
      clear e HR HQ HW
      go_wp2
      go_ret
      exact ⟨B, q, d, rfl, HE.out, HSG.out, by omega⟩
end Go.Proofs.YtpgncbhahocmbaaGreat

namespace Go.Proofs.YtpgncbhahocmbaaGreat
open Go.RowKit
set_option linter.unusedVariables false
set_option linter.unusedSimpArgs false
set_option maxRecDepth 20000

theorem told_first (L : List EvP) (i : Int) : toldV (firstF L i) (.agg (evC EvP.none)) = .agg (evC ((L.find? (isT i)).getD EvP.none)) := by
  unfold firstF
  cases L.find? (isT i) <;> rfl
theorem wpList_put_i {ops : Array Oper} {rest : List Oper} {o : Oper} {a : Act} {w : World} {Q : Exit → Act → World → Prop} {b n : Nat} {f : Int → Option Value} (h : MapI w b n f) (hn : n < 1000) (hg : o.guard = none) {m x v : Operand} {t e : TypeId} (hop : o.op = Op.mapUpdate t m x v)
    (ht : Tryz.prog.underlying t = some (.map 3 e)) (hm : a.eval m = .map (some b)) {k : Int} (hk : -9223372036854775808 ≤ k ∧ k ≤ 9223372036854775807) (hx : a.eval x = .int .i64 k) (u : Value) (hv : a.eval v = u)
    (hK : ∀ w', MapI w' b (n + 1) (updF f k u) → w.grownBy w' (some b) → wpList Tryz.prog ops Q rest (a.put o.dst undef) w') : wpList Tryz.prog ops Q (o :: rest) a w := by
  refine wpList_plain hg fun K' hK' => ?_
  obtain ⟨w', hrun, r1, r2⟩ := h.put hn ht hk u
  unfold Oper.wp
  simp [execOp, hop, hm, hx, hv, hrun, Result.andThen]
  exact hK' _ _ (hK w' r1 r2)
theorem bel_grownm {a w w' : World} {b : Nat} (h : Below a.heap.size a w) (hg : w.grownBy w' (some b)) (hb : a.heap.size ≤ b) : Below a.heap.size a w' :=
  ⟨hg.os.trans h.os, hg.tape.trans h.tape, hg.output.trans h.output, Nat.le_trans h.size hg.size, fun i hi => (hg.block i (Nat.lt_of_lt_of_le hi h.size) (by simp; omega)).trans (h.block i hi)⟩
set_option maxHeartbeats 8000000 in
theorem pfirst_c (A : Option Addr) (n c : Nat) (l : List EvP) (w : World) (h : Evs w A n c l) (hn : n ≤ 900) (hIn : ∀ e ∈ l, e.In) :
    Calls Tryz.prog 69 #[.slice A n c] w fun e w' => ∃ b m, e = .returned (.map (some b)) ∧ Below w.heap.size w w' ∧ MapI w' b m (firstF l) := by
  have HL0 := Lib.hid h
  have HLN := Lib.hid h.2
  have HIN := Lib.hid hIn
  clear h hIn
  have hmm := @run_makeMap Tryz.prog
  go_enter Tryz.func69, Tryz.ntmps69
  go_wp2
  clear hmm
  have HM0 := Lib.hid (MapI.new w (s := w.heap.size) rfl)
  have HB0 : Hid (Below w.heap.size w (w.alloc (.map #[] 0))) := bel_alloc (Below.refl _ _) _
  generalize w.alloc (.map #[] 0) = w1 at *
  obtain ⟨gm, hgm⟩ : ∃ gm, w.heap.size = gm := ⟨_, rfl⟩
  have hgw : w.heap.size ≤ gm := by omega
  rw [hgm] at HM0
  rw [hgm]
  clear hgm
  go_loopw [11] (fun s11 wr => ∃ (k m : Nat), k ≤ n ∧ m ≤ k ∧ s11 = .int .i64 k ∧ Hid (MapI wr gm m (firstF (l.take k))) ∧ Hid (Below w.heap.size w wr)) (fun i _ => n - (intOf i).toNat)
  case atStart => exact ⟨0, 0, Nat.zero_le _, Nat.le_refl _, rfl, HM0, HB0⟩
  case round =>
    obtain ⟨k, m, hk, hmk, rfl, HM, HW⟩ := hrel
    by_cases hlt : k < n
    · have hkl : k < l.length := by rw [HLN.out]; exact hlt
      have HLr := Lib.hid (HL0.out.below HW.out)
      obtain ⟨ba, oa, rfl⟩ := HLr.out.form (by omega)
      obtain ⟨x, hx⟩ : ∃ x, l.getD k EvP.none = x := ⟨_, rfl⟩
      have HLD := Lib.hid (evs_load HLr.out (i := k) hlt)
      rw [hx] at HLD
      have HX := Lib.hid hx
      have i0 : (0 : Int) ≤ (k : Int) := by omega
      have i1 : (k : Int) < (n : Int) := by omega
      have HSZ := Lib.hid (evC_size x)
      have HSO := Lib.hid (evC_one x)
      have hba := bel_alloc (Below.refl wr.heap.size wr) (.cells (evC x) 43)
      have HXA : Hid (Has (wr.alloc (.cells (evC x) 43)) wr.heap.size (evC x)) := Has.new wr _ _ rfl
      have HBA := Lib.hid (bel_on HW.out hba)
      have hxI := HIN.out x (by rw [← hx, List.getD_eq_getElem?_getD, List.getElem?_eq_getElem hkl, Option.getD_some]; exact List.getElem_mem _)
      have hid : -9223372036854775808 ≤ x.id ∧ x.id ≤ 9223372036854775807 := hxI.id
      have HMA := Lib.hid (HM.out.alloc (.cells (evC x) 43))
      obtain ⟨y, hy⟩ : ∃ y, ((l.take k).find? (isT x.id)).getD EvP.none = y := ⟨_, rfl⟩
      obtain ⟨bs, hbs⟩ : ∃ bs, (firstF (l.take k) x.id).isSome = bs := ⟨_, rfl⟩
      have HLK : Hid ((Instr.lookup 109 (.map (some gm)) (.int .i64 x.id) true).run Tryz.prog (wr.alloc (.cells (evC x) 43)) = .ok (.tuple #[.agg (evC y), .bool bs]) (wr.alloc (.cells (evC x) 43))) := by
        have := (HMA.out.look (t := 109) (e := 43) Tryz.underlying109 (z := .agg (evC EvP.none)) (Tryz.zeroValue43 _) hid).1
        rw [told_first, hy, hbs] at this
        exact this
      have HSY := Lib.hid (evC_size y)
      have HYO := Lib.hid (evC_one y)
      have HBY := Lib.hid (bel_alloc HBA.out (.cells (evC y) 43))
      have HXB := Lib.hid (HXA.out.alloc (.cells (evC y) 43))
      have HMB := HMA.out.alloc (.cells (evC y) 43)
      have q0 := HXA.out.cell 0 (show (evC x)[0]? = some (.int .i64 x.id) from rfl)
      have z1 := cell_lt q0
      have HLX := Lib.hid (has_load_e HXB.out)
      have hlk := HLK.out
      clear hba HMA HM HW hy
      cases bs with
      | true =>
        have HMC := Lib.hid (MapI.eqv HMB (first_there hkl hx hbs).symm)
        clear hbs hx hkl HMB
        go_wp2_with (first | refine wpList_exec (o := ⟨some 14, _, _, _, _, _⟩) (by rfl) (exec_load_at _ rfl rfl HLD.out) ?_ | refine wpList_laid_e (evC x) 5 _ _ rfl rfl rfl rfl rfl rfl rfl rfl HSZ.out HSO.out ?_ | refine wpList_laid_e (evC y) 6 _ _ rfl rfl rfl rfl rfl rfl rfl rfl HSY.out HYO.out ?_)
        go_roundw
        case rel => exact ⟨k + 1, m, by omega, by omega, by go_num, HMC, HBY⟩
        case measure => simp [intOf]; omega
      | false =>
        by_cases g3 : x.kd = 3
        · have g3' : (x.kd == 3) = true := by simpa using g3
          have q3 := HXB.out.cell 3 (show (evC x)[3]? = some (.int .i64 x.kd) from rfl)
          have z3 := cell_lt q3
          have q0' := HXB.out.cell 0 (show (evC x)[0]? = some (.int .i64 x.id) from rfl)
          have HFE := Lib.hid (first_new hkl hx g3 hbs)
          have HMC := Lib.hid HMB
          clear hbs hx hkl HMB g3
          go_wp2_with (first | refine wpList_exec (o := ⟨some 14, _, _, _, _, _⟩) (by rfl) (exec_load_at _ rfl rfl HLD.out) ?_ | refine wpList_laid_e (evC x) 5 _ _ rfl rfl rfl rfl rfl rfl rfl rfl HSZ.out HSO.out ?_ | refine wpList_laid_e (evC y) 6 _ _ rfl rfl rfl rfl rfl rfl rfl rfl HSY.out HYO.out ?_ | refine wpList_exec (o := ⟨some 32, _, _, _, _, _⟩) rfl (exec_load_at _ rfl rfl HLX.out) ?_ | (refine wpList_put_i HMC.out (by omega) rfl rfl Tryz.underlying109 rfl hid rfl (.agg (evC x)) rfl ?_; intro w5 hm5 hg5))
          have HMD := Lib.hid (MapI.eqv hm5 HFE.out.symm)
          have HB5 := Lib.hid (bel_grownm HBY.out hg5 hgw)
          clear hm5 hg5
          go_wp2
          go_roundw
          case rel => exact ⟨k + 1, m + 1, by omega, by omega, by go_num, HMD, HB5⟩
          case measure => simp [intOf]; omega
        · have g3' : (x.kd == 3) = false := beq_eq_false_iff_ne.2 g3
          have q3 := HXB.out.cell 3 (show (evC x)[3]? = some (.int .i64 x.kd) from rfl)
          have z3 := cell_lt q3
          have HMC := Lib.hid (MapI.eqv HMB (first_no hkl hx g3).symm)
          clear hbs hx hkl HMB g3
          go_wp2_with (first | refine wpList_exec (o := ⟨some 14, _, _, _, _, _⟩) (by rfl) (exec_load_at _ rfl rfl HLD.out) ?_ | refine wpList_laid_e (evC x) 5 _ _ rfl rfl rfl rfl rfl rfl rfl rfl HSZ.out HSO.out ?_ | refine wpList_laid_e (evC y) 6 _ _ rfl rfl rfl rfl rfl rfl rfl rfl HSY.out HYO.out ?_)
          go_roundw
          case rel => exact ⟨k + 1, m, by omega, by omega, by go_num, HMC, HBY⟩
          case measure => simp [intOf]; omega
    · obtain rfl : k = n := by omega
      have HE := Lib.hid HW.out
      have hm := HM.out
      rw [List.take_of_length_le (show l.length ≤ k by rw [HLN.out]; omega)] at hm
      have HMM := Lib.hid hm
      clear hm HM HW
      go_wp2
      go_ret
      exact ⟨gm, m, rfl, HE.out, HMM.out⟩
end Go.Proofs.YtpgncbhahocmbaaGreat

namespace Go.Proofs.YtpgncbhahocmbaaGreat
open Go.RowKit
set_option linter.unusedVariables false
set_option linter.unusedSimpArgs false
set_option maxRecDepth 20000

theorem find_in {L : List EvP} {p : EvP → Bool} (hIn : ∀ e ∈ L, e.In) (h0 : EvP.none.In) : ((L.find? p).getD EvP.none).In := by
  cases h : L.find? p with
  | none => exact h0
  | some x => exact hIn x (List.mem_of_find?_eq_some h)
def goalRats (gs : List Rat2) : List (Int × Int) := if wrongP gs = 0 then ratsP gs else []
set_option maxHeartbeats 8000000 in
theorem pgoals_c {w : World} {s : SetP} {cs : Array Value} (hW : SetW w s cs) (A : Option Addr) (n c : Nat) (L : List EvP) (h : Evs w A n c L) (hn : n ≤ 900) (hIn : ∀ e ∈ L, e.In) (h0 : EvP.none.In) (B : Option Addr) (m d : Nat) (T : List SegP) (hT : Segs w B m d T) (hm : m ≤ 1000)
    (gx : SegP → Rat2) (hgx : ∀ x, goalE s ((L.find? (isT x.id)).getD EvP.none) = gx x) (hix : ∀ x ∈ T, In64 x.id) :
    Calls Tryz.prog 34 #[.agg cs, .slice A n c, .slice B m d] w fun e w' => ∃ C q k, e = .returned (.tuple #[.slice C q k, .int .i64 (wrongP (T.map gx))]) ∧ Below w.heap.size w w' ∧ (goalRats (T.map gx)).length = q ∧ Rats w' C (goalRats (T.map gx)) ∧ ∀ ad, C = some ad → w.heap.size ≤ ad.block := by
  have HZ := Lib.hid hW.size
  have hb0 := bel_alloc (Below.refl w.heap.size w) (.cells cs 30)
  have HG0 := Lib.hid (Has.new w 30 cs rfl)
  have HC0 := Lib.hid (hW.c.below hb0)
  have HE0 := Lib.hid (h.below hb0)
  have HT0 := Lib.hid (hT.below hb0)
  have HTL := Lib.hid hT.2
  have HBB := Lib.hid hb0
  have HIX := Lib.hid hix
  have HGI : Hid (∀ x : SegP, In64 (gx x).n ∧ In64 (gx x).d) := fun x => by rw [← hgx]; exact goal_in64
  have HGO := Lib.hid (fun (x : SegP) W (hC : SetC W s cs) => gof_any hC hW.f ((L.find? (isT x.id)).getD EvP.none) (find_in hIn h0) (gx x) (hgx x))
  have HF := Lib.hid (fun W (hE : Evs W A n c L) => pfirst_c A n c L W hE hn hIn)
  clear hW h hT hIn h0 hb0 hgx hix
  go_enter Tryz.func34, Tryz.ntmps34
  go_wp2_with fail
  generalize w.alloc (.cells cs 30) = w0 at *
  obtain ⟨gs, hgs⟩ : ∃ gs, w.heap.size = gs := ⟨_, rfl⟩
  rw [hgs] at HG0
  rw [hgs]
  refine (HF.out _ HE0.out).mono ?_
  rintro e w1 ⟨gm, mm, rfl, hb1, hM⟩
  have HM := Lib.hid hM
  have HG := Lib.hid (HG0.out.below hb1)
  have HC := Lib.hid (HC0.out.below hb1)
  have HL := Lib.hid (HT0.out.below hb1)
  have HB1 := Lib.hid (bel_on HBB.out hb1)
  clear hM hb1 HG0 HC0 HE0 HT0 HBB HF hgs
  go_wp2
  go_loopw [9, 18] (fun s9 s18 wr => ∃ (k e : Nat) (C : Option Addr), k ≤ m ∧ s9 = .slice C k e ∧ s18 = .int .i64 k ∧ Hid (wrongP ((T.take k).map gx) = 0) ∧ Hid (TRow 24 2 wr w1.heap.size C k e (((T.take k).map gx).map fun g => [g.n, g.d])) ∧ Hid (Below w1.heap.size w1 wr)) (fun _ i _ => m - (intOf i).toNat)
  case atStart => exact ⟨0, 0, none, Nat.zero_le _, rfl, rfl, Lib.hid (by simp [wrongP]), Lib.hid (by rw [List.take_zero]; exact TRow.nil _ _), Lib.hid (Below.refl _ _)⟩
  case round =>
    obtain ⟨k, e, C, hk, rfl, rfl, HQ, HR, HW⟩ := hrel
    by_cases hlt : k < m
    · have hkl : k < T.length := by rw [HTL.out]; exact hlt
      have HLr := Lib.hid (HL.out.below HW.out)
      obtain ⟨ba, oa, rfl⟩ := HLr.out.form (by omega)
      obtain ⟨x, hx⟩ : ∃ x, T.getD k SegP.none = x := ⟨_, rfl⟩
      obtain ⟨z0, z1, z2, z3, z4⟩ := segs_num HLr.out hlt x hx
      have zl := cell_lt z0
      have i0 : (0 : Int) ≤ (k : Int) := by omega
      have i1 : (k : Int) < (m : Int) := by omega
      have hxm : x ∈ T := by rw [← hx]; simp [List.getD, hkl]
      have hid := HIX.out x hxm
      unfold In64 at hid
      have HBA := Lib.hid (bel_on HW.out (bel_alloc (Below.refl wr.heap.size wr) (.cells #[.int .i64 x.fr, .int .i64 x.to, .int .i64 x.kd, .int .i64 x.id, .int .i64 x.cd] 54)))
      have HGa := Lib.hid (HG.out.below HBA.out)
      have HCa := Lib.hid (HC.out.below HBA.out)
      have HMa := HM.out.below HBA.out
      have HRa := HR.out.alloc (.cells #[.int .i64 x.fr, .int .i64 x.to, .int .i64 x.kd, .int .i64 x.id, .int .i64 x.cd] 54)
      obtain ⟨y, hy⟩ : ∃ y, (L.find? (isT x.id)).getD EvP.none = y := ⟨_, rfl⟩
      have HGX := Lib.hid (HGO.out x)
      have HXI := Lib.hid (HGI.out x)
      obtain ⟨X, hX⟩ : ∃ X, gx x = X := ⟨_, rfl⟩
      rw [hy, hX] at HGX
      rw [hX] at HXI
      have hlk : (Instr.lookup 109 (.map (some gm)) (.int .i64 x.id) false).run Tryz.prog (wr.alloc (.cells #[.int .i64 x.fr, .int .i64 x.to, .int .i64 x.kd, .int .i64 x.id, .int .i64 x.cd] 54)) = .ok (.agg (evC y)) (wr.alloc (.cells #[.int .i64 x.fr, .int .i64 x.to, .int .i64 x.kd, .int .i64 x.id, .int .i64 x.cd] 54)) := by
        have := (HMa.look (t := 109) (e := 43) Tryz.underlying109 (z := .agg (evC EvP.none)) (Tryz.zeroValue43 _) hid).2
        rw [told_first, hy] at this
        exact this
      have HRB := Lib.hid HRa
      have HTK : Hid (T.take (k + 1) = T.take k ++ [x]) := by show _ = _; rw [← hx]; exact seg_take_snoc hkl
      clear HLr HMa HR HRa hxm hy
      go_wp2_with (refine wpList_exec (o := ⟨some 23, _, _, _, _, _⟩) (by rfl) (exec_load_st _ rfl rfl HGa.out HZ.out) ?_)
      clear hlk z0 z1 z2 z3 z4 zl
      refine (HGX.out _ HCa.out).mono ?_
      rintro e_r w5 ⟨rfl, hb5⟩
      have HB5 := Lib.hid (bel_alloc (bel_on HBA.out hb5) (.cells #[.int .i64 X.n, .int .i64 X.d] 24))
      have HR5 := (HRB.out.below hb5).alloc (.cells #[.int .i64 X.n, .int .i64 X.d] 24)
      have HX5 : Has (w5.alloc (.cells #[.int .i64 X.n, .int .i64 X.d] 24)) w5.heap.size #[.int .i64 X.n, .int .i64 X.d] := Has.new _ _ _ rfl
      have u0 := HX5.cell 0 rfl
      have u1 := HX5.cell 1 rfl
      have ul := cell_lt u0
      clear HGX HCa HGa HRB hb5
      by_cases c0 : X.c = 0
      · have c0' : (X.c != 0) = false := by simp [c0]
        obtain ⟨A9, c9, w9, hr9, row9, kp9, -, -⟩ := trow_one (t := 26) (e := 24) (k := 2) (by_ := 16) (z := .agg #[.int .i64 0, .int .i64 0]) Tryz.underlying26 ratio_info rfl (by omega) (by omega) HR5 [X.n, X.d] rfl (by omega) HB5.out.size (s := w5.heap.size + 1) (by simp)
        have e0 : (ints .i64 [X.n, X.d]).toArray = #[.int .i64 X.n, .int .i64 X.d] := rfl
        rw [e0] at hr9
        have HR9 := Lib.hid hr9
        have HRQ : (((T.take (k + 1)).map gx).map fun g => [g.n, g.d]) = (((T.take k).map gx).map fun g => [g.n, g.d]) ++ [[X.n, X.d]] := by rw [HTK.out, List.map_append, List.map_append, List.map_cons, List.map_nil, List.map_cons, List.map_nil, hX]
        rw [← HRQ] at row9
        have HRW9 := Lib.hid row9
        have HW9 := Lib.hid (below_kept0 HB5.out kp9)
        have HWT := Lib.hid (wrong_take hkl HQ.out (by rw [hx, hX]; exact c0))
        clear hr9 row9 kp9 e0 HRQ HR5 HX5 hx hX hkl HQ c0
        go_wp2_with (at_builtin; refine wpList_append_run (o := ⟨some 37, _, _, _, _, _⟩) HR9.out rfl rfl rfl rfl ?_)
        go_roundw
        case rel => exact ⟨k + 1, c9, A9, by omega, rfl, by go_num, HWT, HRW9, HW9⟩
        case measure => simp [intOf]; omega
      · have c0' : (X.c != 0) = true := by simpa using c0
        have HWA : wrongP (T.map gx) = X.c := by
          have := wrong_at hkl HQ.out (by rw [hx, hX]; exact c0)
          rw [hx, hX] at this
          exact this
        have HRN : goalRats (T.map gx) = [] := by unfold goalRats; rw [HWA, if_neg c0]
        have HWH := Lib.hid HWA
        have HRH := Lib.hid HRN
        have HE := Lib.hid (bel_on HB1.out HB5.out)
        clear HWA HRN HR5 HX5 hx hX hkl HQ c0
        go_wp2
        try rw [Exit.noGoto_ret]
        refine bodyPost_ret (v := .tuple #[.slice none 0 0, .int .i64 X.c]) (by simp [results, Tryz.results34, go_sem]) rfl ⟨none, 0, 0, ?_, HE.out, by rw [HRH.out]; rfl, by rw [HRH.out]; intro i hi; simp at hi, fun _ e => by cases e⟩
        rw [HWH.out]
    · obtain rfl : k = m := by omega
      have e1 : T.take k = T := List.take_of_length_le (by rw [HTL.out]; omega)
      rw [e1] at HQ HR
      have HRH : Hid (goalRats (T.map gx) = ratsP (T.map gx)) := by show _ = _; unfold goalRats; rw [if_pos HQ.out]
      have hln : (T.map gx).length = k := by rw [List.length_map]; exact HTL.out
      have HRR := Lib.hid (rats_row HR.out hln (fun g hg => by obtain ⟨x, -, rfl⟩ := List.mem_map.1 hg; exact HGI.out x))
      have HE := Lib.hid (bel_on HB1.out HW.out)
      have HLO := Lib.hid (fun ad (ea : C = some ad) => Nat.le_trans HB1.out.size (HR.out.lt ad ea).1)
      have HLN := Lib.hid hln
      have HQQ := Lib.hid HQ.out
      clear e1 HQ HR HW hln
      go_wp2
      try rw [Exit.noGoto_ret]
      refine bodyPost_ret (v := .tuple #[.slice C k e, .int .i64 0]) (by simp [results, Tryz.results34, go_sem]) rfl ⟨C, k, e, ?_, HE.out, ?_, ?_, HLO.out⟩
      · rw [HQQ.out]
      · rw [HRH.out]; unfold ratsP; rw [List.length_map]; exact HLN.out
      · rw [HRH.out]; exact HRR.out
end Go.Proofs.YtpgncbhahocmbaaGreat

namespace Go.Proofs.YtpgncbhahocmbaaGreat
open Go.RowKit
set_option linter.unusedVariables false
set_option linter.unusedSimpArgs false
set_option maxRecDepth 20000

theorem hund_mk {n : Int} (h : 0 ≤ n ∧ n ≤ 1000) : mkC n 100 = 0 := by
  unfold mkC
  rw [if_neg (by omega)]
  have h1 := gcd_n n 100
  have h2 := gcd_d n 100
  have h3 := gcd_pos' (n := n) (d := 100) (by omega)
  generalize (Int.gcd n 100 : Int) = g at *
  generalize hx : n / g = x at *
  generalize hy : 100 / g = y at *
  have b1 : 0 ≤ x := by
    by_cases q : 0 ≤ x
    · exact q
    · have := Int.mul_neg_of_pos_of_neg h3 (show x < 0 by omega); omega
  have b2 : x ≤ g * x := by
    have := Int.mul_le_mul_of_nonneg_right (show (1 : Int) ≤ g by omega) b1; omega
  have b3 : 0 ≤ y := by
    by_cases q : 0 ≤ y
    · exact q
    · have := Int.mul_neg_of_pos_of_neg h3 (show y < 0 by omega); omega
  have b4 : y ≤ g * y := by
    have := Int.mul_le_mul_of_nonneg_right (show (1 : Int) ≤ g by omega) b3; omega
  rw [if_pos (by omega)]
theorem least_less {n d L : Int} (hm : mayB n d = true) (h : 0 ≤ L ∧ L ≤ 1000) : lessB n d (mkR L 100).n (mkR L 100).d = !decide (L * d ≤ 100 * n) := by
  have hc := hund_mk h
  have h1 := mk_may hc
  have h2 := mk_cross hc
  have hb := may_bd h1
  have hd := may_bd hm
  unfold lessB
  show (mayB n d && mayB (mkN L 100) (mkD L 100) && decide (n * mkD L 100 < mkN L 100 * d)) = _
  rw [hm, h1]
  simp only [Bool.true_and]
  generalize mkN L 100 = x at *
  generalize mkD L 100 = y at *
  have e : (n * y < x * d) ↔ ¬ (L * d ≤ 100 * n) := by
    have e1 : L * d * y = x * d * 100 := by rw [Int.mul_assoc, Int.mul_comm d y, ← Int.mul_assoc, ← h2, Int.mul_assoc, Int.mul_comm 100 d, ← Int.mul_assoc]
    have hy : 0 < y := by omega
    constructor
    · intro hlt hle
      have := Int.mul_le_mul_of_nonneg_right hle (show 0 ≤ y by omega)
      rw [e1, Int.mul_assoc 100 n y] at this
      omega
    · intro hn
      have hlt : 100 * n < L * d := by omega
      have := Int.mul_lt_mul_of_pos_right hlt hy
      rw [e1, Int.mul_assoc 100 n y] at this
      omega
  by_cases q : L * d ≤ 100 * n
  · have : ¬ n * y < x * d := fun hh => e.1 hh q
    simp [q, this]
  · have : n * y < x * d := e.2 q
    simp [q, this]
set_option maxHeartbeats 8000000 in
theorem tier_c {w : World} {s : SetP} {cs : Array Value} (h : SetC w s cs) (hf : s.Fit) (b : Bool) (hb : checkB s = b) (n d : Int) (hn : In64 n) (hd : In64 d) :
    Calls Tryz.prog 13 #[.agg cs, .agg #[.int .i64 n, .int .i64 d]] w fun e w' => e = .returned (.int .i64 (topT b s.tiers n d)) ∧ Below w.heap.size w w' := by
  have HZ := Lib.hid h.size
  obtain ⟨A, c, HQ, HT⟩ := setC_tiers h
  have hmay : b = true → ∀ i, i < s.tiers.length → 0 ≤ leastT s.tiers i ∧ leastT s.tiers i ≤ 1000 := fun e i hi => by
    have := (check_iff.1 (hb.trans e)).tiers.2 i hi
    exact ⟨this.1, this.2.1⟩
  obtain ⟨w1, hw1⟩ : ∃ W, (w.alloc (.cells cs 30)).alloc (.cells #[.int .i64 n, .int .i64 d] 24) = W := ⟨_, rfl⟩
  have hb1 : Below w.heap.size w w1 := by rw [← hw1]; exact bel_alloc (bel_alloc (Below.refl _ _) _) _
  have HG1 : Hid (Has w1 w.heap.size cs) := by show Has _ _ _; rw [← hw1]; exact (Has.new w _ _ rfl).alloc _
  have hp1 : Has w1 (w.heap.size + 1) #[.int .i64 n, .int .i64 d] := by rw [← hw1]; exact Has.new _ _ _ (by simp)
  obtain ⟨g3, hg3⟩ : ∃ g, w.heap.size + 1 = g := ⟨_, rfl⟩
  rw [hg3] at hp1
  have HP1 := Lib.hid hp1
  have HT1 := Lib.hid (HT.below hb1)
  have HCK := Lib.hid (scheck_c (h.below hb1) hf b hb)
  have HW1 := Lib.hid hb1
  have HRC := Lib.hid (fun W => check_any n d W hn.1 hn.2 hd.1 hd.2)
  obtain ⟨y, hy⟩ : ∃ y, mayB n d = y := ⟨_, rfl⟩
  rw [hy] at HRC
  have HYY := Lib.hid hy
  have HTT : Hid (topT b s.tiers n d = if b = true ∧ y = true then topN s.tiers n d s.tiers.length else -1) := by show _ = _; unfold topT; rw [hy]
  obtain ⟨ts, hts⟩ : ∃ ts, s.tiers = ts := ⟨_, rfl⟩
  obtain ⟨m, hm⟩ : ∃ m, ts.length = m := ⟨_, rfl⟩
  rw [hts] at hmay HQ HT1 HTT ⊢
  rw [hm] at hmay HQ HT1 HTT
  have HMY := Lib.hid hmay
  have HLN := Lib.hid hm
  clear hb1 hp1 h hf hb HT hmay hy hts hm
  go_enter Tryz.func13, Tryz.ntmps13
  go_wp2_with (refine wpList_load_sp (by rfl) _ rfl w.heap.size rfl cs HG1.out HZ.out ?_)
  clear hw1 hg3
  refine HCK.out.mono ?_
  rintro e w2 ⟨rfl, b2⟩
  have HG2 := Lib.hid (HG1.out.below b2)
  have HP2 := Lib.hid (HP1.out.below b2)
  have HT2 := Lib.hid (HT1.out.below b2)
  have HW2 := Lib.hid (bel_on HW1.out b2)
  have p0 := HP2.out.cell 0 rfl
  have p1 := HP2.out.cell 1 rfl
  have pl := cell_lt p0
  clear b2 HG1 HP1 HT1 HW1 HCK
  cases b with
  | false =>
    go_wp2
    go_ret
    exact ⟨by rw [HTT.out]; simp, HW2.out⟩
  | true =>
    have HMZ := Lib.hid (HMY.out rfl)
    clear HMY
    go_wp2_with fail
    clear p0 p1 pl
    refine (HRC.out _).mono ?_
    rintro e w3 ⟨rfl, b3⟩
    have HG3 := Lib.hid (HG2.out.below b3)
    have HP3 := Lib.hid (HP2.out.below b3)
    have HT3 := Lib.hid (HT2.out.below b3)
    have HW3 := Lib.hid (bel_on HW2.out b3)
    clear b3 HG2 HP2 HT2 HW2 HRC
    cases y with
    | false =>
      go_wp2
      go_ret
      exact ⟨by rw [HTT.out]; simp, HW3.out⟩
    | true =>
      have q22 := HG3.out.cell 22 HQ
      have ql := cell_lt q22
      have hmx : m ≤ 9223372036854775807 := Nat.le_trans HT3.out.cap HT3.out.max
      go_wp2
      clear q22 ql
      go_loopw [5, 22] (fun o i wr => ∃ k : Nat, k ≤ m ∧ i = .int .i64 k ∧ o = .int .i64 (topN ts n d k) ∧ Hid (Below w3.heap.size w3 wr)) (fun _ i _ => m - (intOf i).toNat)
      case atStart => exact ⟨0, Nat.zero_le _, rfl, by first | rfl | (rw [topN_zero]), Below.refl _ _⟩
      case round =>
        obtain ⟨k, hk, rfl, rfl, HW⟩ := hrel
        have HE := Lib.hid (bel_on HW3.out HW.out)
        have i0 : (0 : Int) ≤ (k : Int) := by omega
        by_cases hlt : k < m
        · have i1 : (k : Int) < (m : Int) := by omega
          have hL := HMZ.out k hlt
          have HTr := HT3.out.below HW.out
          obtain ⟨b6, o6, rfl⟩ := rows_form HTr.sl (by omega) (by omega)
          have z0 : wr.cell? ⟨b6, o6 + k * 2, none⟩ = some (.int .i64 (leastT ts k)) := HTr.cell (j := 0) hlt (by omega)
          have z1 := HTr.cell (j := 1) hlt (by omega)
          have zl := cell_lt z0
          obtain ⟨L, hLL⟩ : ∃ L, leastT ts k = L := ⟨_, rfl⟩
          generalize (ts.getD k []).getD 1 0 = bo at *
          have HTY := Lib.hid (topN_yes (ts := ts) (n := n) (d := d) (i := k))
          have HTN := Lib.hid (topN_no (ts := ts) (n := n) (d := d) (i := k))
          rw [hLL] at z0 hL HTY HTN
          have HLS := Lib.hid (least_less HYY.out hL)
          have HMK := Lib.hid (fun W => make_any L 100 W (by omega) (by omega) (by omega) (by omega))
          have HPQ := Lib.hid (rat_i64 _ (mkR_may L 100) (mkR_z L 100))
          clear HTr hLL
          obtain ⟨M, hM⟩ : ∃ M, mkR L 100 = M := ⟨_, rfl⟩
          rw [hM] at HLS HPQ
          have HMM : Hid (∀ W : World, Calls Tryz.prog 21 #[.int .i64 L, .int .i64 100] W fun e w' => e = .returned (.tuple #[.agg #[.int .i64 M.n, .int .i64 M.d], .int .i64 M.c]) ∧ Below W.heap.size W w') := fun W => by rw [← hM]; exact HMK.out W
          have HBA := Lib.hid (bel_alloc HW.out (.cells #[.int .i64 L, .int .i64 bo] 67))
          have HLE := Lib.hid (fun W => qless_any n d M.n M.d W hn hd HPQ.out.1 HPQ.out.2)
          rw [HLS.out] at HLE
          obtain ⟨P, hP⟩ : ∃ P, L * d = P := ⟨_, rfl⟩
          rw [hP] at HTY HTN HLE
          clear HMK HLS HPQ hM hP hL
          go_wp2_with fail
          clear z0 z1 zl
          refine (HMM.out _).mono ?_
          rintro e w5 ⟨rfl, b5⟩
          have HB5 := Lib.hid (bel_alloc (bel_on HBA.out b5) (.cells #[.int .i64 M.n, .int .i64 M.d] 24))
          have HM5 : Has (w5.alloc (.cells #[.int .i64 M.n, .int .i64 M.d] 24)) w5.heap.size #[.int .i64 M.n, .int .i64 M.d] := Has.new _ _ _ rfl
          have m0 := HM5.cell 0 rfl
          have m1 := HM5.cell 1 rfl
          have ml := cell_lt m0
          have HP5 := HP3.out.below HB5.out
          have p0 := HP5.cell 0 rfl
          have p1 := HP5.cell 1 rfl
          have pl := cell_lt p0
          clear b5 HM5 HP5 HMM
          go_wp2_with fail
          clear m0 m1 ml p0 p1 pl
          refine (HLE.out _).mono ?_
          rintro e w6 ⟨rfl, b6⟩
          have HB6 := Lib.hid (bel_on HB5.out b6)
          clear b6 HLE
          by_cases hle : P ≤ 100 * n
          · have hle' : decide (P ≤ 100 * n) = true := decide_eq_true hle
            have HN := Lib.hid (HTY.out hle)
            clear hle
            go_wp2
            go_roundw
            case rel => exact ⟨k + 1, by omega, by go_num, by rw [HN.out], HB6⟩
            case measure => simp [intOf]; omega
          · have hle' : decide (P ≤ 100 * n) = false := decide_eq_false hle
            have HN := Lib.hid (HTN.out (by omega))
            clear hle
            go_wp2
            go_roundw
            case rel => exact ⟨k + 1, by omega, by go_num, by rw [HN.out], HB6⟩
            case measure => simp [intOf]; omega
        · obtain rfl : k = m := by omega
          go_wp2
          go_ret
          exact ⟨by rw [HTT.out]; simp [HLN.out], HE.out⟩
end Go.Proofs.YtpgncbhahocmbaaGreat
