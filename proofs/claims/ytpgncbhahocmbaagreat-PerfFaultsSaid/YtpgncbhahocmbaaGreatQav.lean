/-
  What layer 12's laws use besides: a setup with a unit of 1; one part more; lumperlaw12.near.
  stream.Of: what a worker's sessions are made of.
-/
import Derived.Test.YtpgncbhahocmbaaGreatQau
import Derived.Test.YtpgncbhahocmbaaGreatQas
namespace Go.Proofs.YtpgncbhahocmbaaGreat
open Go.RowKit
set_option linter.unusedVariables false
set_option linter.unusedSimpArgs false
set_option maxRecDepth 20000

theorem srow_more {w : World} {base n c : Nat} {A : Option Addr} {l : List SegP} (h : SRow w base A n c l) (x : SegP) (hm : n ≤ 1000) (hbase : base ≤ w.heap.size) {s : Nat} (hs : w.heap.size = s) :
    ∃ A' c' w', (Builtin.append_ #[47, 47] 47 #[.slice A n c, .slice (some ⟨s, 0, none⟩) 1 1]).run Tryz.prog (w.alloc (.cells #[.int .i64 x.fr, .int .i64 x.to, .int .i64 x.kd, .int .i64 x.id, .int .i64 x.cd] 54)) = .ok (.slice A' (n + 1) c') w' ∧ SRow w' base A' (n + 1) c' (l ++ [x]) ∧ Kept (fun b => b < base) w w' := by
  obtain ⟨A', c', w', h1, h2, h3, -, -⟩ := trow_one (t := 47) (e := 54) (k := 5) (by_ := 40) (z := .agg #[.int .i64 0, .int .i64 0, .int .i64 0, .int .i64 0, .int .i64 0]) Tryz.underlying47 seg_info rfl (by omega) (by omega) h (segL x) rfl hm hbase hs
  have e0 : (ints .i64 (segL x)).toArray = #[.int .i64 x.fr, .int .i64 x.to, .int .i64 x.kd, .int .i64 x.id, .int .i64 x.cd] := rfl
  rw [e0] at h1
  refine ⟨A', c', w', h1, ?_, h3⟩
  have e : (l ++ [x]).map segL = l.map segL ++ [segL x] := by simp
  show TRow _ _ _ _ _ _ _ ((l ++ [x]).map segL)
  rw [e]
  exact h2
theorem wpList_max2s {P : Program} {ops : Array Oper} {rest : List Oper} {o : Oper} {a : Act} {w : World} {Q : Exit → Act → World → Prop} {x y : Operand} {ts : Array TypeId} (p q n : Int) (hn : max p q = n) (hgd : o.guard = none)
    (ho : o.op = .call { callee := .builtin .max, args := #[x, y], argTypes := ts }) (h1 : a.eval x = .int .i64 p) (h2 : a.eval y = .int .i64 q)
    (h : wpList P ops Q rest (a.put o.dst (.int .i64 n)) w) : wpList P ops Q (o :: rest) a w := by
  refine wpList_plain hgd fun K hK => ?_
  have e : (if q > p then q else p) = n := by
    subst hn
    split <;> omega
  unfold Oper.wp execOp
  simp only [ho, resolve, invoke, builtin, Sem.run_bind, Sem.run_pure, Result.andThen_ok, List.map_toArray, List.map_cons, List.map_nil, h1, h2, run_max_int2, e]
  exact hK _ _ h
end Go.Proofs.YtpgncbhahocmbaaGreat

namespace Go.Proofs.YtpgncbhahocmbaaGreat
open Go.RowKit
set_option linter.unusedVariables false
set_option linter.unusedSimpArgs false
set_option maxRecDepth 20000

theorem items_rest (cap : Int) : ∀ (A : List EvP) (st : StP), itemsS cap st A = runE cap st A ++ closeS cap (runT cap st A)
  | [], st => rfl
  | b :: A, st => by
    show (stepS cap st b).1 ++ itemsS cap _ A = ((stepS cap st b).1 ++ runE cap _ A) ++ _
    rw [items_rest cap A, List.append_assoc]
    rfl
theorem opn_run (cap : Int) : ∀ (A : List EvP) (st : StP) (t : Int), Opn t st → (∀ b ∈ A, t ≤ b.tm) → A.Pairwise (fun a b => a.tm ≤ b.tm) → (∀ b ∈ A, 0 ≤ b.tm ∧ b.tm ≤ 31449599) → t ≤ 31449599 → ∃ t', t' ≤ 31449599 ∧ Opn t' (runT cap st A)
  | [], st, t, h, _, _, _, ht => ⟨t, ht, h⟩
  | b :: A, st, t, h, h1, h2, h3, ht => by
    rw [List.pairwise_cons] at h2
    exact opn_run cap A _ b.tm (opn_step h b (h1 b (by simp)) (h3 b (by simp)).1) h2.1 h2.2 (fun c hc => h3 c (by simp [hc])) (h3 b (by simp)).2
section
variable {w0 w : World} {g : Nat} {u cap : Int} {st : StP} {S : List SegP} {F : List FlagP}
/-- Behind the last event. -/
theorem wpass_last (h : StW w0 w g u cap st S F) (t : Int) (ht : t ≤ 31449599) (ho : Opn t st) (hc : 0 ≤ cap ∧ cap ≤ 100000) (hu : 1 ≤ u ∧ u ≤ 100000000) (hlen : S.length + stN st ≤ 800) (hlen2 : F.length + openN st ≤ 800) :
    Calls Tryz.prog 52 #[.pointer (some ⟨g, 0, none⟩), .int .i64 32054400] w fun x w' => x = .returned (.tuple #[]) ∧
      GotNone w0 w' g u cap (S ++ segsS (fun t => roundP t u) (closeS cap st)) (F ++ flagsS (closeS cap st)) := by
  have hR := roundP_mono hu.1 hu.2
  match st, h, ho with
  | none, ⟨A, n, c, C, m, d, hw⟩, _ =>
    refine (wpass_none hw 32054400).mono ?_
    rintro x w' ⟨rfl, rfl⟩
    refine ⟨rfl, ?_⟩
    simp only [closeS, segsS, flagsS, List.flatMap_nil, List.append_nil]
    exact ⟨A, n, c, C, m, d, hw⟩
  | some (e, ins), ⟨A, n, c, C, m, d, p, D, q, r, hw, hs, hp⟩, ⟨o1, o2, o3, o4⟩ =>
    have hn := hw.hn
    have hm := hw.hm
    have hq := hs.hq
    have hlen' : S.length + (ins.length + 1) ≤ 800 := hlen
    have hlen2' : F.length + 1 ≤ 800 := hlen2
    refine (wpass_end hw hs hp 32054400 (e.tm + cap) rfl (by omega) (by omega) (by omega) _ _ rfl rfl (hR _ _ (by omega)) o4 (by omega) (by omega) (by omega)).mono ?_
    rintro x w' ⟨rfl, A', n', c', C', m', d', h1, h2⟩
    refine ⟨rfl, ?_⟩
    simp only [closeS, segsS, flagsS, List.flatMap_cons, List.flatMap_nil, List.append_nil, segsI, flagsI]
    exact ⟨A', n', c', C', m', d', h1⟩
end
theorem gives_two {w w0 w' : World} {g : Nat} {u cap : Int} {S : List SegP} {F : List FlagP} {A C : Option Addr} {n c m d : Nat} {V : Value} (hw : Wat w0 w' g u cap V A n c S C m d F) (hb : Below w.heap.size w w0) (hg : w.heap.size ≤ g) :
    STwo w w' A S.length c S C F.length d F := by
  have hn := hw.hn
  have hm := hw.hm
  subst hn
  subst hm
  refine ⟨trow_mono hw.a hb.size, trow_mono hw.b hb.size, hw.ne, ?_⟩
  have hk := hw.k
  exact ⟨hk.os.trans hb.os, hk.tape.trans hb.tape, hk.output.trans hb.output, Nat.le_trans hb.size hk.size, fun b h => (hk.block b ⟨by have := hb.size; omega, by omega⟩).trans (hb.block b h)⟩
set_option maxHeartbeats 8000000 in
theorem stream_any (s : SetP) (cs : Array Value) (w : World) (hW : SetW w s cs) (A : Option Addr) (n c : Nat) (l : List EvP) (h : Evs w A n c l) (hn : n ≤ 800) (hIn : ∀ e ∈ l, e.In) (wk : Int) :
    Calls Tryz.prog 17 #[.agg cs, .slice A n c, .int .i64 wk] w (GivesT w (segsOf s wk l) (flagsOf s wk l)) := by
  have HZ := Lib.hid hW.size
  have mixed : Tryz.prog.follows Departure.mixedOrders = true := by kernel_rfl
  have hb0 := bel_alloc (Below.refl w.heap.size w) (.cells cs 30)
  have HB0 := Lib.hid (Has.new w 30 cs rfl)
  have HL0 := Lib.hid (h.below hb0)
  have HWW := Lib.hid (hW.below hb0)
  have HB := Lib.hid hb0
  cases hck : checkB s with
  | false =>
    have HC := Lib.hid (scheck_c HWW.out.c hW.f false hck)
    have e1 : segsOf s wk l = [] := by unfold segsOf; rw [hck]; rfl
    have e2 : flagsOf s wk l = [] := by unfold flagsOf; rw [hck]; rfl
    rw [e1, e2]
    clear hW h hck hb0 e1 e2
    go_enter Tryz.func17, Tryz.ntmps17
    go_wp2_with (refine wpList_exec (o := ⟨some 9, _, _, _, _, _⟩) (by rfl) (exec_load_st _ rfl rfl HB0.out HZ.out) ?_)
    refine HC.out.mono ?_
    rintro e w1 ⟨rfl, b1⟩
    have HEND : Hid (STwo w w1 none 0 0 [] none 0 0 []) := ⟨TRow.nil _ _, TRow.nil _ _, (fun g e h _ => by cases h), bel_on HB.out b1⟩
    clear b1
    go_wp2
    refine bodyPost_ret (v := .tuple #[.slice none 0 0, .slice none 0 0]) (by simp [results, Tryz.results17, go_sem]) rfl ⟨none, 0, none, 0, rfl, HEND.out⟩
  | true =>
    have HC := Lib.hid (scheck_c HWW.out.c hW.f true hck)
    have hM := check_iff.1 hck
    have HM := Lib.hid hM
    have e1 : segsOf s wk l = segsS (fun t => roundP t s.unit) (itemsOf s wk l) := by unfold segsOf; rw [if_pos hck]
    have e2 : flagsOf s wk l = flagsS (itemsOf s wk l) := by unfold flagsOf; rw [if_pos hck]
    have HE : Hid (segsOf s wk l = segsS (fun t => roundP t s.unit) (runE s.cap none (wevs (mayE s.places s.elements.length s.classes.length s.gears.length s.rates.length) wk l)) ++ segsS (fun t => roundP t s.unit) (closeS s.cap (runT s.cap none (wevs (mayE s.places s.elements.length s.classes.length s.gears.length s.rates.length) wk l))) ∧
        flagsOf s wk l = flagsS (runE s.cap none (wevs (mayE s.places s.elements.length s.classes.length s.gears.length s.rates.length) wk l)) ++ flagsS (closeS s.cap (runT s.cap none (wevs (mayE s.places s.elements.length s.classes.length s.gears.length s.rates.length) wk l)))) := by
      refine ⟨?_, ?_⟩
      · rw [e1, ← segsS_append, ← items_rest]; rfl
      · rw [e2, ← flagsS_append, ← items_rest]; rfl
    have HLN : Hid ((segsS (fun t => roundP t s.unit) (runE s.cap none (wevs (mayE s.places s.elements.length s.classes.length s.gears.length s.rates.length) wk l))).length + stN (runT s.cap none (wevs (mayE s.places s.elements.length s.classes.length s.gears.length s.rates.length) wk l)) ≤ 800 ∧
        (flagsS (runE s.cap none (wevs (mayE s.places s.elements.length s.classes.length s.gears.length s.rates.length) wk l))).length + openN (runT s.cap none (wevs (mayE s.places s.elements.length s.classes.length s.gears.length s.rates.length) wk l)) ≤ 800) := by
      have h1 := run_len (cap := s.cap) (fun t => roundP t s.unit) (wevs (mayE s.places s.elements.length s.classes.length s.gears.length s.rates.length) wk l) none
      have h2 := wevs_len (mayE s.places s.elements.length s.classes.length s.gears.length s.rates.length) wk l
      have h3 := h.2
      have e0 : stN none = 0 := rfl
      have e1 : openN none = 0 := rfl
      rw [e0, e1] at h1
      refine ⟨?_, ?_⟩
      · have := h1.1; omega
      · have := h1.2; omega
    have HOPN : Hid (∃ t, t ≤ 31449599 ∧ Opn t (runT s.cap none (wevs (mayE s.places s.elements.length s.classes.length s.gears.length s.rates.length) wk l))) := by
      refine opn_run s.cap _ none 0 trivial (fun b hb => (wevs_ok b hb).2.2.2.1) (risen_times (wevs_risen _ _ _)) (fun b hb => (wevs_ok b hb).2.2.2) (by omega)
    have HIN := Lib.hid hIn
    have q8 := HB0.out.cell 8 hW.u
    have q9 := HB0.out.cell 9 hW.k
    have z8 := cell_lt q8
    have HSU := Lib.hid hW.u
    have HSK := Lib.hid hW.k
    clear hW h hck hb0 e1 e2 hM hIn
    go_enter Tryz.func17, Tryz.ntmps17
    go_wp2_with (refine wpList_exec (o := ⟨some 9, _, _, _, _, _⟩) (by rfl) (exec_load_st _ rfl rfl HB0.out HZ.out) ?_)
    refine HC.out.mono ?_
    rintro e w1 ⟨rfl, b1⟩
    have HB1 := Lib.hid (bel_on HB.out b1)
    have HG1 := Lib.hid (HB0.out.below b1)
    have HL1 := Lib.hid (HL0.out.below b1)
    have HW1 := Lib.hid (HWW.out.below b1)
    have q8 := HG1.out.cell 8 HSU.out
    have q9 := HG1.out.cell 9 HSK.out
    have z8 := cell_lt q8
    have hbn := bel_alloc (Below.refl w1.heap.size w1) (.cells #[.int .i64 s.unit, .int .i64 s.cap, .pointer none, .slice none 0 0, .slice none 0 0] 87)
    have HEA := Lib.hid (each_any s cs (w1.alloc (.cells #[.int .i64 s.unit, .int .i64 s.cap, .pointer none, .slice none 0 0, .slice none 0 0] 87)) (HW1.out.below hbn) HM.out A n c l (HL1.out.below hbn) hn HIN.out wk w1.heap.size (Has.new w1 _ _ rfl))
    have HGS := Lib.hid (HG1.out.below hbn)
    have HBN := Lib.hid (bel_on HB1.out hbn)
    have HGG := Lib.hid HB1.out.size
    clear b1 hbn HB0 HL0 HWW HB HC HG1 HL1 HW1
    go_wp2_with (refine wpList_exec (o := ⟨some 17, _, _, _, _, _⟩) (by rfl) (exec_load_st _ rfl rfl HGS.out HZ.out) ?_)
    refine HEA.out.mono ?_
    rintro e w2 ⟨rfl, w0, hbw, hgl, hst⟩
    have hcp : 0 ≤ s.cap ∧ s.cap ≤ 100000 := by have := HM.out.cap; omega
    have huu : 1 ≤ s.unit ∧ s.unit ≤ 100000000 := by have := HM.out.unit; omega
    obtain ⟨t, ht, ho⟩ := HOPN.out
    have HPL := Lib.hid (wpass_last hst t ht ho hcp huu HLN.out.1 HLN.out.2)
    have HB2 := Lib.hid (bel_on HBN.out hbw)
    obtain ⟨g, hg⟩ : ∃ g, Hid (w1.heap.size = g) := ⟨_, rfl⟩
    rw [hg.out] at HPL HGG
    rw [hg.out]
    clear hst hgl hbw hcp huu ht ho HEA HGS HBN q8 q9 z8 HOPN hg
    go_wp2_with fail
    refine HPL.out.mono ?_
    rintro e w3 ⟨rfl, A3, n3, c3, C3, m3, d3, hw3⟩
    rw [← HE.out.1, ← HE.out.2] at hw3
    have HEND := Lib.hid (gives_two hw3 HB2.out HGG.out)
    have qa := hw3.h.cell 3 rfl
    have qc := hw3.h.cell 4 rfl
    have za := cell_lt qa
    have hn3 := hw3.hn
    have hm3 := hw3.hm
    clear hw3 HPL
    generalize segsOf s wk l = SG at *
    generalize flagsOf s wk l = FG at *
    subst hn3
    subst hm3
    go_wp2
    go_quiet (fail)
    go_wp2
    refine bodyPost_ret (v := .tuple #[.slice A3 SG.length c3, .slice C3 FG.length d3]) (by simp [results, Tryz.results17, go_sem]) rfl ⟨A3, c3, C3, d3, rfl, HEND.out.below (below_drewN (Below.refl _ _) _)⟩
end Go.Proofs.YtpgncbhahocmbaaGreat
