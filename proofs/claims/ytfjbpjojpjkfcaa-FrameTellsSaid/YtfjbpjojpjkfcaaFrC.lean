/-
  Package frame: the function that hands out the frames that bytes begin with.
-/
import Derived.Test.YtfjbpjojpjkfcaaFrB
import Derived.Test.YtfjbpjojpjkfcaaFrSeq
import Derived.Test.YtfjbpjojpjkfcaaCrcStr
import Derived.Shelf.RegionOpen
import Derived.OwnWalkIn
import Derived.TacticsInMore
import Derived.LoopNIn
import Derived.LoopIn
import Derived.WalkMore
namespace Go.Proofs.Ytfjbpjojpjkfcaa
open Go.RowKit
set_option linter.unusedVariables false
attribute [local go_sem] Oper.semAt_some

theorem wpIn_scope_wide {n : Nat} {P : Program} {c : Code} {Q : Exit → Act → World → Prop} {a : Act} {w : World} (h : c.wpIn Fence.wide n P (Exit.noGoto Q) a w) : (Code.scope c).wpIn Fence.wide n P Q a w :=
  wpIn_wide.2 (wp_scope_straight (wpIn_wide.1 h))
/-- In a fenced walk: a slice whose run is known. -/
theorem wpListIn_slice_run {F : Fence} {n : Nat} {P : Program} {ops : Array Oper} {rest : List Oper} {o : Oper} {a : Act} {w : World} {Q : Exit → Act → World → Prop} {x : Operand} {l h m : Option Operand} {t : TypeId} {v v' : Value} {lo hi mx : Option Value}
    (hr : ∀ w', (Instr.sliceAt t v lo hi mx).run P w' = .ok v' w') (hgd : o.guard = none)
    (ho : o.op = .slice t x l h m) (hx : a.eval x = v) (h1 : l.map a.eval = lo) (h2 : h.map a.eval = hi) (h3 : m.map a.eval = mx)
    (hk : wpListIn F n P ops Q rest (a.put o.dst v') w) : wpListIn F n P ops Q (o :: rest) a w := by
  refine wpListIn_plain hgd fun K hK => ⟨?_, ?_⟩
  · simp [Oper.about, ho]
  · rw [Oper.semAt_plain F _ _ (by rw [ho]; intro c hc; cases hc)]
    simp [execOp, ho, hx, h1, h2, h3, hr, Result.andThen]
    exact hK _ _ hk
/-- In a fenced walk: an element of an array that is known. -/
theorem wpListIn_index_run {F : Fence} {n : Nat} {P : Program} {ops : Array Oper} {rest : List Oper} {o : Oper} {a : Act} {w : World} {Q : Exit → Act → World → Prop} {x y : Operand} {t : TypeId} {v u v' : Value}
    (hr : ∀ w', (Instr.index t v u).run P w' = .ok v' w') (hgd : o.guard = none)
    (ho : o.op = .index t x y) (hx : a.eval x = v) (hy : a.eval y = u)
    (hk : wpListIn F n P ops Q rest (a.put o.dst v') w) : wpListIn F n P ops Q (o :: rest) a w := by
  refine wpListIn_plain hgd fun K hK => ⟨?_, ?_⟩
  · simp [Oper.about, ho]
  · rw [Oper.semAt_plain F _ _ (by rw [ho]; intro c hc; cases hc)]
    simp [execOp, ho, hx, hy, hr, Result.andThen]
    exact hK _ _ hk
theorem index_four (n : BitVec 32) (k : Nat) (hk : k < 4) (w : World) : (Instr.index 43 (.agg (bytesV (bytesB n)).toArray) (.int .i64 (k : Int))).run Try.prog w = .ok (v8 ((bytesB n).getD k 0#8)) w := by
  rcases k with _ | _ | _ | _ | k
  · kernel_rfl
  · kernel_rfl
  · kernel_rfl
  · kernel_rfl
  · omega
/-- 'b[n:h]'. -/
theorem cut_mid {w : World} {A : Option Addr} {m c : Nat} {l : List (BitVec 8)} (hs : Sl 1 w A m c (bytesV l)) (hmc : m ≤ c) (n h : Nat) (hn : n ≤ h) (hh : h ≤ m) :
    ∃ A', (∀ w', (Instr.sliceAt 22 (.slice A m c) (some (.int .i64 (n : Int))) (some (.int .i64 (h : Int))) none).run Try.prog w' = .ok (.slice A' (h - n) (c - n)) w') ∧ Sl 1 w A' (h - n) (c - n) (bytesV ((l.drop n).take (h - n))) ∧ (∀ g, A' = some g → ∃ g', A = some g' ∧ g.block = g'.block) := by
  have hl := hs.blen
  have hrun : ∀ w', (Instr.sliceAt 22 (.slice A m c) (some (.int .i64 (n : Int))) (some (.int .i64 (h : Int))) none).run Try.prog w' = .ok (.slice (if c = n then A else A.map (·.add n)) (h - n) (c - n)) w' := by
    intro w'
    rw [run_sliceAt_slice _ _ _ _ _ _ Try.underlying22, run_slice_lh _ _ _ _ _ Try.underlying22 .i64 .i64 (n : Int) (h : Int) (by omega) (by omega) (by omega), u8_size]
    simp [sliced, Result.andThen]
  obtain ⟨A2, hrun2, hs2⟩ := cut_from hs hmc n (by omega)
  have hrun3 : ∀ w', (Instr.sliceAt 22 (.slice A m c) (some (.int .i64 (n : Int))) none none).run Try.prog w' = .ok (.slice (if c = n then A else A.map (·.add n)) (m - n) (c - n)) w' := by
    intro w'
    rw [run_sliceAt_slice _ _ _ _ _ _ Try.underlying22, run_slice_l _ _ _ _ _ Try.underlying22 .i64 (n : Int) (by omega) (by omega), u8_size]
    simp [sliced, Result.andThen]
  have e := (hrun2 w).symm.trans (hrun3 w)
  injection e with e e'
  injection e with e1
  subst e1
  refine ⟨_, hrun, sl_take hs2 (by omega) (fun hA => ?_), ?_⟩
  · by_cases hcn : c = n
    · omega
    · rw [if_neg hcn] at hA
      obtain ⟨_, ⟨_, _, hz⟩ | ⟨ad, e, _⟩⟩ := hs
      · omega
      · subst e; cases hA
  · intro g hg
    by_cases hcn : c = n
    · rw [if_pos hcn] at hg
      exact ⟨g, hg, rfl⟩
    · rw [if_neg hcn] at hg
      cases A with
      | none => cases hg
      | some a =>
        simp only [Option.map_some, Option.some.injEq] at hg
        exact ⟨a, rfl, by rw [← hg, add_block]⟩
theorem Lay.form {n : Nat} {w : World} {B : Option Addr} {m d : Nat} {p : List (BitVec 8)} (h : Lay n w (.slice B m d) p) : p.length = m ∧ Sl 1 w B m d (bytesV p) ∧ m ≤ d ∧ (∀ g, B = some g → 0 < m → g.block < n) := by
  obtain ⟨B', d', e, hs, hd, hl⟩ := h
  injection e with e1 e2 e3
  subst e1 e2 e3
  exact ⟨rfl, hs, hd, hl⟩
theorem lay_mk {n : Nat} {w : World} {B : Option Addr} {m d : Nat} {p : List (BitVec 8)} (hs : Sl 1 w B m d (bytesV p)) (hd : m ≤ d) (hl : ∀ g, B = some g → 0 < m → g.block < n) : Lay n w (.slice B m d) p := by
  have := hs.blen
  subst this
  exact ⟨B, d, rfl, hs, hd, hl⟩
/-- 'b[n:]', 'b[n:h]' lie where b does. -/
theorem lay_from {n : Nat} {w : World} {B : Option Addr} {m d : Nat} {p : List (BitVec 8)} (h : Lay n w (.slice B m d) p) (k : Nat) (hk : k ≤ m) :
    ∃ A', (∀ w', (Instr.sliceAt 22 (.slice B m d) (some (.int .i64 (k : Int))) none none).run Try.prog w' = .ok (.slice A' (m - k) (d - k)) w') ∧ Lay n w (.slice A' (m - k) (d - k)) (p.drop k) := by
  obtain ⟨h1, h2, h3, h4⟩ := h.form
  obtain ⟨A2, hr2, hs2⟩ := cut_from h2 h3 k hk
  have hrun3 : ∀ w', (Instr.sliceAt 22 (.slice B m d) (some (.int .i64 (k : Int))) none none).run Try.prog w' = .ok (.slice (if d = k then B else B.map (·.add k)) (m - k) (d - k)) w' := by
    intro w'
    rw [run_sliceAt_slice _ _ _ _ _ _ Try.underlying22, run_slice_l _ _ _ _ _ Try.underlying22 .i64 (k : Int) (by omega) (by omega), u8_size]
    simp [sliced, Result.andThen]
  have e := (hr2 w).symm.trans (hrun3 w)
  injection e with e e'
  injection e with e1
  subst e1
  refine ⟨_, hr2, lay_mk hs2 (by omega) fun g hg hp => ?_⟩
  by_cases hcn : d = k
  · rw [if_pos hcn] at hg
    exact h4 g hg (by omega)
  · rw [if_neg hcn] at hg
    cases B with
    | none => cases hg
    | some a =>
      simp only [Option.map_some, Option.some.injEq] at hg
      rw [← hg, add_block]
      exact h4 a rfl (by omega)
theorem lay_mid {n : Nat} {w : World} {B : Option Addr} {m d : Nat} {p : List (BitVec 8)} (h : Lay n w (.slice B m d) p) (k q : Nat) (hk : k ≤ q) (hq : q ≤ m) :
    ∃ A', (∀ w', (Instr.sliceAt 22 (.slice B m d) (some (.int .i64 (k : Int))) (some (.int .i64 (q : Int))) none).run Try.prog w' = .ok (.slice A' (q - k) (d - k)) w') ∧ Lay n w (.slice A' (q - k) (d - k)) ((p.drop k).take (q - k)) := by
  obtain ⟨h1, h2, h3, h4⟩ := h.form
  obtain ⟨A2, hr2, hs2, hb⟩ := cut_mid h2 h3 k q hk hq
  refine ⟨A2, hr2, lay_mk hs2 (by omega) fun g hg hp => ?_⟩
  obtain ⟨g', e1, e2⟩ := hb g hg
  rw [e2]
  exact h4 g' e1 (by omega)
theorem lay_mono {n n' : Nat} {w : World} {v : Value} {p : List (BitVec 8)} (h : Lay n w v p) (hn : n ≤ n') : Lay n' w v p := by
  obtain ⟨B, d, e, hs, hd, hl⟩ := h
  exact ⟨B, d, e, hs, hd, fun g hg hp => Nat.lt_of_lt_of_le (hl g hg hp) hn⟩

theorem frames_any (A : Option Addr) (n c : Nat) (w : World) : Calls Try.prog 23 #[.slice A n c] w fun e w' => e = .returned (.func (.func 32) #[] #[.pointer (some ⟨w.heap.size, 0, none⟩)]) ∧ w' = w.alloc (.cells #[.slice A n c] 22) := by
  go_enter Try.func23, Try.ntmps23
  go_wp2
  go_ret
  exact ⟨rfl, rfl⟩
def slen : Value → Nat
  | .slice _ n _ => n
  | _ => 0
/-- The four bytes are the sum's, as far as they were looked at. -/
def SameTo (l : List (BitVec 8)) (t : Nat) (s : List (BitVec 8)) (k : Nat) : Prop := ∀ j, j < k → l.getD (t + j) 0#8 = s.getD j 0#8
theorem same_four {l s : List (BitVec 8)} {t : Nat} (h : SameTo l t s 4) (hs : s.length = 4) (hl : t + 4 ≤ l.length) : s = (l.drop t).take 4 := by
  apply List.ext_getElem
  · rw [hs, List.length_take, List.length_drop]; omega
  · intro j h1 h2
    have := h j (by omega)
    simp [List.getD, show t + j < l.length by omega, show j < s.length by omega] at this
    simp [this]
theorem same_not {l s : List (BitVec 8)} {t k : Nat} (hk : k < 4) (hs : s.length = 4) (hl : t + 4 ≤ l.length) (h : l.getD (t + k) 0#8 ≠ s.getD k 0#8) : s ≠ (l.drop t).take 4 := by
  intro e
  apply h
  rw [e]
  simp [List.getD, hk]

set_option maxHeartbeats 4000000 in
theorem frames_seq (Bn n₀ m cap : Nat) (A : Option Addr) (xs : List (BitVec 8)) (w : World) (hB : Bn < w.heap.size) (hc : w.cell? ⟨Bn, 0, none⟩ = some (.slice A m cap)) (hx : Lay n₀ w (.slice A m cap) xs) (hn : n₀ ≤ w.heap.size) (hl : m ≤ 100000000000) :
    SeqBy Try.prog 32 #[.pointer (some ⟨Bn, 0, none⟩)] n₀ (seqF xs) w := by
  intro l J Jx W hW hJ hJx hY h0
  have hc' := (hW.cell (p := ⟨Bn, 0, none⟩) hB).trans hc
  have hx' := hx.below (hW.mono hn)
  have HY := Lib.hid hY
  have HJ := Lib.hid hJ
  have hnW : n₀ ≤ W.heap.size := Nat.le_trans hn hW.size
  clear hY hx hc hW hJ hJx
  refine callsIn_of_wp Try.func32 rfl trivial ?_ rfl
  simp only [Try.ntmps32, List.size_toArray, List.length_cons, List.length_nil, Nat.reduceAdd, Nat.reduceSub, Array.replicate_succ, Array.replicate_zero, List.push_toArray, List.append_toArray, List.nil_append, List.cons_append]
  gi_wp2
  refine wpIn_scope_wide ?_
  gi_wp2
  refine wpIn_label ?_
  gi_wp2
  gi_loopw [3] (fun r wr => ∃ (k : Nat) (B : Option Addr) (d : Nat) (z : List (BitVec 8)) (pre : List Two8), k ≤ m ∧ r = .slice B k d ∧ Hid (Lay n₀ wr (.slice B k d) z) ∧ Hid (SeqAt xs pre z) ∧ Hid (J pre wr) ∧ Below n₀ W wr) (fun r _ => slen r)
  case atStart => exact ⟨m, A, cap, xs, [], Nat.le_refl _, rfl, hx', rfl, h0, Below.refl _ _⟩
  case round =>
    obtain ⟨k, B, d, z, pre, hk, rfl, hz, hat, hJs, hnx⟩ := hrel
    clear h0 hx' hc'
    obtain ⟨f, t, hft⟩ : ∃ f t, boundsB z = (f, t) := ⟨_, _, rfl⟩
    obtain ⟨z1, z2, z3, z4⟩ := hz.out.form
    have HBC := Lib.hid (bounds_any B k d z f t wr z2 z3 (by omega) hft)
    have hnr : n₀ ≤ wr.heap.size := Nat.le_trans hnW hnx.size
    by_cases ht : t = 0
    · subst ht
      have hnone : takeF z = none := bounds_none (by rw [hft])
      have HE : Hid (pre = seqF xs) := by
        show pre = seqF xs
        have := hat.out
        unfold SeqAt at this
        rwa [seq_none hnone, List.append_nil] at this
      clear hft hnone z2 z4
      gi_wp2_with fail
      refine ⟨trivial, rfl, (callsIn_wide.2 HBC.out).mono ?_⟩
      rintro e w1 ⟨rfl, hb1⟩
      have HJ1 := Lib.hid (HJ.out _ _ _ hJs.out hb1)
      gi_wp2
      (try simp only [Exit.noGoto])
      go_end0
      exact ⟨⟨_, rfl⟩, .inl (HE.out ▸ HJ1.out)⟩
    · obtain ⟨b1, b2, b3, b4, b5, b6, b7⟩ := bounds_some hft ht
      rw [z1] at b3
      have ht' : ((t : Int) == 0) = false := by simp; omega
      obtain ⟨A1, hr1, hs1⟩ := cut_to z2 z3 t (by omega)
      obtain ⟨A2, hr2, hs2⟩ := lay_mid hz.out f t b1 (by omega)
      obtain ⟨A3, hr3, hs3⟩ := lay_from hz.out (t + 4) (by omega)
      have e4 : ((t + 4 : Nat) : Int) = (t : Int) + 4 := by omega
      rw [e4] at hr3
      have HR1 := Lib.hid hr1
      have HR2 := Lib.hid hr2
      have HR3 := Lib.hid hr3
      have HB := Lib.hid (byts_of_sl z2)
      have H1 := Lib.hid hs1
      have H2 := Lib.hid hs2
      have H3 := Lib.hid hs3
      have HF := Lib.hid b7
      have hTl : (z.take t).length = t := by rw [List.length_take]; omega
      have HTL := Lib.hid hTl
      have HZ1 := Lib.hid z1
      have HP6 := Lib.hid b6
      clear hr1 hr2 hr3 hs1 hs2 hs3 b7 hft z2 z4 hTl b5 b6 e4 z1
      gi_wp2_with fail
      refine ⟨trivial, rfl, (callsIn_wide.2 HBC.out).mono ?_⟩
      rintro e w1 ⟨rfl, hb1⟩
      clear HBC
      gi_wp2_with (refine wpListIn_slice_run (o := ⟨some 19, _, _, _, _, _⟩) HR1.out rfl rfl rfl rfl rfl rfl ?_)
      refine ⟨trivial, rfl, (callsIn_wide.2 (crcsum_at _ 1 _ [z.take t] (sumB (z.take t)) _ (parts_one 22 (byts_of_sl (H1.out.below hb1)) HTL.out (by omega) rfl) (congrArg sumB (flat_one _)) rfl (by omega))).mono ?_⟩
      rintro e w2 ⟨rfl, hb2⟩
      replace hb2 := bel_on (bel_alloc hb1 _) hb2
      gi_wp2_with fail
      refine ⟨trivial, rfl, (callsIn_wide.2 (crcbytes_any (sumB (z.take t)) _)).mono ?_⟩
      rintro e w3 ⟨rfl, hb3⟩
      replace hb3 := bel_on hb2 hb3
      clear hb1 hb2
      have HI := Lib.hid (index_four (sumB (z.take t)))
      have hsl : (bytesB (sumB (z.take t))).length = 4 := rfl
      generalize hsum : bytesB (sumB (z.take t)) = s at *
      have HSL := Lib.hid hsl
      have HSUM := Lib.hid hsum
      clear hsl hsum
      gi_wp2
      gi_loop [23] (fun i => ∃ j : Nat, j ≤ 4 ∧ i = .int .i64 j ∧ Hid (SameTo z t s j)) (fun i => 4 - (intOf i).toNat)
      case atStart => exact ⟨0, by omega, rfl, Lib.hid (fun j hj => by omega)⟩
      case round =>
        obtain ⟨j, hj, rfl, hsame⟩ := hrel
        by_cases hlt : j < 4
        · obtain ⟨b, off, rfl, hcb⟩ := (HB.out.below hb3) (t + j) (by rw [HZ1.out]; omega)
          have hi := HI.out j hlt
          have hjI : (j : Int) < 4 := by omega
          have HSN := Lib.hid (fun h => same_not (l := z) (s := s) (t := t) hlt HSL.out (by rw [HZ1.out]; omega) h)
          have HSY : Hid (z.getD (t + j) 0#8 = s.getD j 0#8 → SameTo z t s (j + 1)) := Lib.hid (fun h i hi => by
            rcases Nat.lt_or_ge i j with q | q
            · exact hsame.out i q
            · obtain rfl : i = j := by omega
              exact h)
          generalize z.getD (t + j) 0#8 = y1 at *
          generalize s.getD j 0#8 = y2 at *
          have HIR := Lib.hid hi
          clear hi
          by_cases hy : y1 = y2
          · subst hy
            have HS2 := Lib.hid (HSY.out rfl)
            gi_wp2_with (refine wpListIn_index_run (o := ⟨some 26, _, _, _, _, _⟩) HIR.out rfl rfl rfl rfl ?_)
            go_round
            case rel => exact ⟨j + 1, by omega, by go_num, HS2⟩
            case measure => simp [intOf]; omega
          · have hne : ((y1.toNat : Int) == (y2.toNat : Int)) = false := by
              simp
              intro e
              exact hy (BitVec.eq_of_toNat_eq (by omega))
            have hnone : takeF z = none := by
              rw [HF.out, if_neg (HSN.out hy)]
            have HE : Hid (pre = seqF xs) := by
              show pre = seqF xs
              have := hat.out
              unfold SeqAt at this
              rwa [seq_none hnone, List.append_nil] at this
            have HJ1 := Lib.hid (HJ.out _ _ _ hJs.out hb3)
            clear hnone
            gi_wp2_with (refine wpListIn_index_run (o := ⟨some 26, _, _, _, _, _⟩) HIR.out rfl rfl rfl rfl ?_)
            (try simp only [Exit.noGoto])
            go_end0
            exact ⟨⟨_, rfl⟩, .inl (HE.out ▸ HJ1.out)⟩
        · obtain rfl : j = 4 := by omega
          have hsome : takeF z = some ((z.drop f).take (t - f), z.drop (t + 4)) := by
            rw [HF.out, if_pos (same_four hsame.out HSL.out (by rw [HZ1.out]; omega))]
          have hpre : (pre ++ [((z.drop f).take (t - f), z.drop (t + 4))]) ++ seqF (z.drop (t + 4)) = seqF xs := by
            have := hat.out
            unfold SeqAt at this
            rw [← this, seq_some hsome]
            simp
          have hb3n : Below n₀ wr w3 := hb3.mono hnr
          obtain ⟨fn, tmps, assign, body, hy, hR⟩ := HY.out pre _ _ _ w3 (HJ.out _ _ _ hJs.out hb3) ⟨_, hpre⟩ (H2.out.below hb3n) (H3.out.below hb3n)
          have HP := Lib.hid hpre
          clear hpre hsome
          gi_wp2_with (first | refine wpListIn_slice_run (o := ⟨some 39, _, _, _, _, _⟩) HR2.out rfl rfl rfl rfl rfl rfl ?_ | refine wpListIn_slice_run (o := ⟨some 43, _, _, _, _, _⟩) HR3.out rfl rfl rfl rfl rfl rfl ?_)
          refine ⟨rfl, hR.mono ?_⟩
          rintro e W7 (⟨rfl, J7, hk7, hs7⟩ | ⟨rfl, hJx7⟩)
          · have HJ7 := Lib.hid J7
            have hbb := hnx.trans (hb3n.trans hk7)
            have HL7 := Lib.hid ((H3.out.below hb3n).below hk7)
            clear J7 hR hy
            gi_wp2
            go_roundw
            case rel => exact ⟨k - (t + 4), A3, d - (t + 4), _, _, by omega, rfl, HL7, HP, HJ7, hbb⟩
            case measure => simp only [slen]; omega
          · have HJ7 := Lib.hid hJx7
            clear hJx7 hR hy
            gi_wp2
            (try simp only [Exit.noGoto])
            go_end0
            exact ⟨⟨_, rfl⟩, .inr ⟨_, ⟨_, HP.out⟩, HJ7.out⟩⟩
end Go.Proofs.Ytfjbpjojpjkfcaa
