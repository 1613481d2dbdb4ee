/-
  Package stream's step over the next event, and each.
  stream.Of: what a worker's sessions are made of.
-/
import Derived.Test.YtbijaaglmhoopaaZbb
namespace Go.Proofs.Ytbijaaglmhoopaa
open Go.RowKit
set_option linter.unusedVariables false
set_option linter.unusedSimpArgs false
set_option maxRecDepth 20000

def StW (w0 w : World) (g : Nat) (u cap : Int) (st : StP) (S : List SegP) (F : List FlagP) : Prop :=
  match st with
  | none => GotNone w0 w g u cap S F
  | some (e, ins) => GotOpen w0 w g u cap e ins S F
section
variable {w0 w w' : World} {g : Nat} {u cap : Int} {st : StP} {S : List SegP} {F : List FlagP}
theorem StW.below (h : StW w0 w g u cap st S F) (hb : Below w.heap.size w w') : StW w0 w' g u cap st S F := by
  match st, h with
  | none, ⟨A, n, c, C, m, d, hw⟩ => exact ⟨A, n, c, C, m, d, hw.below hb⟩
  | some (e, ins), ⟨A, n, c, C, m, d, p, D, q, r, hw, hs, hp⟩ => exact ⟨A, n, c, C, m, d, p, D, q, r, hw.below hb, hs.below hb, hp⟩
theorem StW.kept (h : StW w0 w g u cap st S F) : Kept (fun b => b < w0.heap.size ∧ b ≠ g) w0 w := by
  match st, h with
  | none, ⟨A, n, c, C, m, d, hw⟩ => exact hw.k
  | some (e, ins), ⟨A, n, c, C, m, d, p, D, q, r, hw, hs, hp⟩ => exact hw.k
/-- The open session's times. -/
def Opn (t : Int) : StP → Prop
  | none => True
  | some (e, ins) => 0 ≤ e.tm ∧ e.tm ≤ t ∧ (∀ x ∈ ins, x.tm ≤ t) ∧ ins.Pairwise (fun a b => a.tm ≤ b.tm)
theorem opn_step {t : Int} (h : Opn t st) (b : EvP) (hb : t ≤ b.tm) (h0 : 0 ≤ b.tm) : Opn b.tm (stepS cap st b).2 := by
  match st, h with
  | none, _ =>
    by_cases k : b.kd = 1
    · simp only [stepS, if_pos k]; exact ⟨h0, Int.le_refl _, by simp, by simp⟩
    · simp only [stepS, if_neg k]; trivial
  | some (e, ins), ⟨h1, h2, h3, h4⟩ =>
    by_cases q : e.tm + cap < b.tm
    · by_cases k : b.kd = 1
      · simp only [stepS, if_pos q, if_pos k]; exact ⟨h0, Int.le_refl _, by simp, by simp⟩
      · simp only [stepS, if_pos q, if_neg k]; trivial
    · by_cases k : b.kd = 1
      · simp only [stepS, if_neg q, if_pos k]; exact ⟨h0, Int.le_refl _, by simp, by simp⟩
      · by_cases k2 : b.kd = 2
        · simp only [stepS, if_neg q, if_neg k, if_pos k2]; trivial
        · simp only [stepS, if_neg q, if_neg k, if_neg k2]
          refine ⟨h1, by omega, fun x hx => ?_, ?_⟩
          · rcases List.mem_append.1 hx with hx | hx
            · have := h3 x hx; omega
            · rw [List.mem_singleton.1 hx]; exact Int.le_refl _
          · rw [List.pairwise_append]
            refine ⟨h4, by simp, fun x hx y hy => ?_⟩
            rw [List.mem_singleton.1 hy]
            have := h3 x hx
            omega
theorem len_step (R : Int → Int) (b : EvP) : (segsS R (stepS cap st b).1).length + stN (stepS cap st b).2 ≤ 1 + stN st ∧ (flagsS (stepS cap st b).1).length + openN (stepS cap st b).2 ≤ 1 + openN st := by
  match st with
  | none => by_cases k : b.kd = 1 <;> simp [stepS, k, segsS, segsI, stN, flagsS, flagsI, openN]
  | some (e, ins) =>
    have p1 := sparts_len (first := R e.tm) (last := R (e.tm + cap)) ins (R e.tm) e
    have p2 := sparts_len (first := R e.tm) (last := R b.tm) ins (R e.tm) e
    by_cases q : e.tm + cap < b.tm
    · by_cases k : b.kd = 1 <;> simp [stepS, k, q, segsS, segsI, stN, flagsS, flagsI, openN] <;> omega
    · by_cases k : b.kd = 1
      · simp [stepS, k, q, segsS, segsI, stN, flagsS, flagsI, openN]; omega
      · by_cases k2 : b.kd = 2
        · simp [stepS, k2, q, segsS, segsI, stN, flagsS, flagsI, openN]; omega
        · simp [stepS, k, k2, q, segsS, segsI, stN, flagsS, flagsI, openN]; omega
theorem run_len (R : Int → Int) : ∀ (L : List EvP) (st : StP), (segsS R (runE cap st L)).length + stN (runT cap st L) ≤ L.length + stN st ∧ (flagsS (runE cap st L)).length + openN (runT cap st L) ≤ L.length + openN st
  | [], st => by simp [runE, runT, segsS, flagsS]
  | b :: L, st => by
    have h1 := run_len R L (stepS cap st b).2
    have h2 := len_step (cap := cap) (st := st) R b
    show (segsS R ((stepS cap st b).1 ++ runE cap (stepS cap st b).2 L)).length + stN (runT cap (stepS cap st b).2 L) ≤ _ ∧ (flagsS ((stepS cap st b).1 ++ runE cap (stepS cap st b).2 L)).length + openN (runT cap (stepS cap st b).2 L) ≤ _
    rw [segsS_append, flagsS_append, List.length_append, List.length_append, List.length_cons]
    omega
theorem runE_more (cap : Int) (b : EvP) : ∀ (A : List EvP) (st : StP), runE cap st (A ++ [b]) = runE cap st A ++ (stepS cap (runT cap st A) b).1
  | [], st => by show (stepS cap st b).1 ++ [] = [] ++ (stepS cap st b).1; simp
  | c :: A, st => by
    show (stepS cap st c).1 ++ runE cap _ (A ++ [b]) = ((stepS cap st c).1 ++ runE cap _ A) ++ _
    rw [runE_more cap b A, List.append_assoc]
    rfl
theorem runT_more (cap : Int) (b : EvP) : ∀ (A : List EvP) (st : StP), runT cap st (A ++ [b]) = (stepS cap (runT cap st A) b).2
  | [], st => rfl
  | c :: A, st => runT_more cap b A _
/-- The next event. -/
theorem wtake_any (h : StW w0 w g u cap st S F) (b : EvP) (t : Int) (ho : Opn t st) (htb : t ≤ b.tm) (hbt : 0 ≤ b.tm ∧ b.tm ≤ 31449599) (hc : 0 ≤ cap ∧ cap ≤ 100000) (hu : 1 ≤ u ∧ u ≤ 100000000) (hlen : S.length + stN st ≤ 800) (hlen2 : F.length + openN st ≤ 800) :
    Calls Try.prog 24 #[.pointer (some ⟨g, 0, none⟩), .agg (evC b)] w fun x w' => x = .returned (.tuple #[]) ∧
      StW w0 w' g u cap (stepS cap st b).2 (S ++ segsS (fun t => roundP t u) (stepS cap st b).1) (F ++ flagsS (stepS cap st b).1) := by
  have hR := roundP_mono hu.1 hu.2
  have hb0 := bel_alloc (Below.refl w.heap.size w) (.cells (evC b) 39)
  match st, h, ho with
  | none, ⟨A, n, c, C, m, d, hw⟩, _ =>
    refine (wtake_out (u := u) (cap := cap) (A := A) (C := C) hw.size b b.tm rfl S F ((wpass_none (hw.below hb0) b.tm).mono ?_) (fun x hx => by have := (hw.a.lt x hx).2; omega) (fun x hx => by have := (hw.b.lt x hx).2; omega) (by omega)).mono ?_
    · rintro x w' ⟨rfl, rfl⟩
      exact ⟨rfl, A, n, c, C, m, d, hw.below hb0, KP.refl _ _ _ _⟩
    · rintro x w' ⟨rfl, h1, h2⟩
      refine ⟨rfl, ?_⟩
      by_cases k : b.kd = 1
      · have := h1 k
        simp only [stepS, if_pos k, segsS, flagsS, List.flatMap_nil, List.append_nil]
        exact this
      · have := h2 k
        simp only [stepS, if_neg k, segsS, flagsS, List.flatMap_cons, List.flatMap_nil, List.append_nil, segsI, flagsI]
        exact this
  | some (e, ins), ⟨A, n, c, C, m, d, p, D, q, r, hw, hs, hp⟩, ⟨o1, o2, o3, o4⟩ =>
    have hn := hw.hn
    have hm := hw.hm
    have hq := hs.hq
    have hlen' : S.length + (ins.length + 1) ≤ 800 := hlen
    have hlen2' : F.length + 1 ≤ 800 := hlen2
    have he : 0 ≤ e.tm ∧ e.tm ≤ 100000000 := by omega
    have hcc : 0 ≤ cap ∧ cap ≤ 100000000 := by omega
    by_cases k0 : e.tm + cap < b.tm
    · refine (wtake_out (u := u) (cap := cap) (A := A) (C := C) hw.size b b.tm rfl (S ++ partsG (roundP e.tm u) (roundP (e.tm + cap) u) (roundP e.tm u) e ins) (F ++ [⟨e.id, 1⟩])
        (wpass_end (hw.below hb0) (hs.below hb0) hp b.tm (e.tm + cap) rfl k0 he hcc _ _ rfl rfl (hR _ _ (by omega)) o4 (by omega) (by omega) (by omega))
        (fun x hx => by have := (hw.a.lt x hx).2; omega) (fun x hx => by have := (hw.b.lt x hx).2; omega) (by simp; omega)).mono ?_
      rintro x w' ⟨rfl, h1, h2⟩
      refine ⟨rfl, ?_⟩
      by_cases k : b.kd = 1
      · have := h1 k
        simp only [stepS, if_pos k0, if_pos k, segsS, flagsS, List.flatMap_cons, List.flatMap_nil, List.append_nil, segsI, flagsI]
        exact this
      · have := h2 k
        simp only [stepS, if_pos k0, if_neg k, segsS, flagsS, List.flatMap_cons, List.flatMap_nil, List.append_nil, segsI, flagsI]
        rw [List.append_assoc] at this
        exact this
    · have HP := wpass_not (hw.below hb0) (hs.below hb0) b.tm (e.tm + cap) rfl k0 he hcc
      by_cases k : b.kd = 1
      · refine (wtake_in1 (V0 := undef) hw hs hp b b.tm rfl k _ _ rfl rfl (hR _ _ (by omega)) o4 (by omega) (by omega) (by omega) HP).mono ?_
        rintro x w' ⟨rfl, h1⟩
        refine ⟨rfl, ?_⟩
        simp only [stepS, if_neg k0, if_pos k, segsS, flagsS, List.flatMap_cons, List.flatMap_nil, List.append_nil, segsI, flagsI]
        exact h1
      · by_cases k2 : b.kd = 2
        · refine (wtake_in2 (V0 := undef) hw hs hp b b.tm rfl k2 _ _ rfl rfl (hR _ _ (by omega)) o4 (by omega) (by omega) (by omega) HP).mono ?_
          rintro x w' ⟨rfl, h1⟩
          refine ⟨rfl, ?_⟩
          simp only [stepS, if_neg k0, if_neg k, if_pos k2, segsS, flagsS, List.flatMap_cons, List.flatMap_nil, List.append_nil, segsI, flagsI]
          first | exact h1 | (simp only [if_true, List.append_nil]; exact h1)
        · refine (wtake_in3 (V0 := undef) hw hs hp b b.tm rfl ⟨k, k2⟩ (by omega) HP).mono ?_
          rintro x w' ⟨rfl, h1⟩
          refine ⟨rfl, ?_⟩
          simp only [stepS, if_neg k0, if_neg k, if_neg k2, segsS, flagsS, List.flatMap_nil, List.append_nil]
          exact h1
end
/-! ### each -/
theorem take_snoc_ev {l : List EvP} {i : Nat} (h : i < l.length) : l.take (i + 1) = l.take i ++ [l.getD i EvP.none] := by
  rw [List.take_add_one, List.getElem?_eq_getElem h, List.getD_eq_getElem?_getD, List.getElem?_eq_getElem h]
  rfl
theorem sort_filter (p : EvP → Bool) (l : List EvP) : sortE (l.filter p) = (sortE l).filter p := by
  refine (ev_sort_of (risen_filter _ _ (ev_sort_risen l)) fun k => ?_).symm
  rw [List.filter_filter, List.filter_filter]
  have e1 : ∀ m : List EvP, m.filter (fun a => alikeE k a && p a) = (m.filter (alikeE k)).filter p := fun m => by
    rw [List.filter_filter]
    exact List.filter_congr fun x _ => Bool.and_comm _ _
  rw [e1, e1, ev_sort_alike]
theorem evs_off {w : World} {b off n c g : Nat} {l : List EvP} (h : Evs w (some ⟨b, off, none⟩) n c l) (hn : 0 < n) {cs : Array Value} (hg : Has w g cs) (hs : cs.size ≤ 10) : b ≠ g := by
  rintro rfl
  have := h.cell (i := 0) (j := 10) hn (by decide)
  obtain ⟨t, hg⟩ := hg
  rw [cell_of_row w b (off + 0 * 11 + 10) cs t (0, 0) hg, Array.getElem?_eq_none (by omega)] at this
  cases this
set_option maxHeartbeats 16000000 in
theorem each_any (s : SetP) (cs : Array Value) (w : World) (hW : SetW w s cs) (hM : s.May) (A : Option Addr) (n c : Nat) (l : List EvP) (h : Evs w A n c l) (hn : n ≤ 800) (hIn : ∀ e ∈ l, e.In) (wk : Int) (g : Nat)
    (hg : Has w g #[.int .i64 s.unit, .int .i64 s.cap, .pointer none, .slice none 0 0, .slice none 0 0]) :
    Calls Try.prog 23 #[.agg cs, .slice A n c, .int .i64 wk, .func (.func 24) #[.pointer (some ⟨g, 0, none⟩)] #[]] w fun x w' => x = .returned (.tuple #[]) ∧
      ∃ w0, Below w.heap.size w w0 ∧ g < w.heap.size ∧ StW w0 w' g s.unit s.cap (runT s.cap none (wevs (mayE s.places s.elements.length s.classes.length s.gears.length s.rates.length) wk l))
        (segsS (fun t => roundP t s.unit) (runE s.cap none (wevs (mayE s.places s.elements.length s.classes.length s.gears.length s.rates.length) wk l))) (flagsS (runE s.cap none (wevs (mayE s.places s.elements.length s.classes.length s.gears.length s.rates.length) wk l))) := by
  have HZ := Lib.hid hW.size
  have HQ := Lib.hid hW.q
  have HU := Lib.hid (And.intro hM.unit hM.cap)
  have hb0 := bel_alloc (Below.refl w.heap.size w) (.cells cs 30)
  have HB0 := Lib.hid (Has.new w 30 cs rfl)
  have HL0 := Lib.hid (h.below hb0)
  have HG0 := Lib.hid (hg.below hb0)
  have HGL := Lib.hid hg.size
  have HBW := Lib.hid hb0
  have HLN := Lib.hid h.2
  have HIN := Lib.hid hIn
  have HWF : Hid (wevs (mayE s.places s.elements.length s.classes.length s.gears.length s.rates.length) wk l = sortE (l.filter (ofW (mayE s.places s.elements.length s.classes.length s.gears.length s.rates.length) wk))) := (sort_filter _ _).symm
  have HOK : Hid (∀ x ∈ wevs (mayE s.places s.elements.length s.classes.length s.gears.length s.rates.length) wk l, 0 ≤ x.tm ∧ x.tm ≤ 31449599) := fun x hx => (wevs_ok x hx).2.2.2
  have HRT : Hid ((wevs (mayE s.places s.elements.length s.classes.length s.gears.length s.rates.length) wk l).Pairwise (fun a b => a.tm ≤ b.tm)) := risen_times (wevs_risen _ _ _)
  have HCK : Hid (∀ (x : EvP), x.In → ∀ (b : Bool), mayE s.places s.elements.length s.classes.length s.gears.length s.rates.length x = b → ∀ W, Calls Try.prog 18 #[.agg cs, .agg (evC x)] W fun r w' => r = .returned (.bool b) ∧ Below W.heap.size W w') := fun x hi b hb W => echeck_any cs _ _ _ _ _ HQ.out x hi W b hb
  generalize mayE s.places s.elements.length s.classes.length s.gears.length s.rates.length = may at *
  obtain ⟨u, hu⟩ : ∃ u, Hid (s.unit = u) := ⟨_, rfl⟩
  obtain ⟨cap, hcap⟩ : ∃ cap, Hid (s.cap = cap) := ⟨_, rfl⟩
  rw [hu.out, hcap.out] at HU HG0
  rw [hu.out, hcap.out]
  clear hW h hb0 hIn hg HQ hM hu hcap
  have eg : ∀ args w, (callFunc 24 args).run Try.prog w = .ok (.enter 24 args) w := enters_of Try.func24 (by kernel_rfl) rfl
  obtain ⟨gs, hgs⟩ : ∃ gs, Hid (w.heap.size = gs) := ⟨_, rfl⟩
  go_enter Try.func23, Try.ntmps23
  go_wp2
  have hb1 := HBW.out
  generalize w.alloc (.cells cs 30) = w1 at *
  rw [hgs.out] at HB0
  rw [hgs.out]
  go_loopg [8, 15] n (fun kx s8 s15 wr => ∃ (k q d : Nat) (B : Option Addr), s8 = .slice B q d ∧ s15 = .int .i64 k ∧ k + kx = n ∧ q ≤ k ∧ Hid (((l.take k).filter (ofW may wk)).length = q) ∧ Hid (ERow wr w1.heap.size B q d ((l.take k).filter (ofW may wk))) ∧ Hid (Below w1.heap.size w1 wr))
  case atStart => exact ⟨0, 0, 0, none, rfl, rfl, by omega, by omega, Lib.hid (by simp), Lib.hid (by rw [List.take_zero]; exact TRow.nil _ _), Lib.hid (Below.refl _ _)⟩
  case round =>
    obtain ⟨k, q, d, B, rfl, rfl, hk, hqk, HQL, HR, HW⟩ := hrel
    by_cases hlt : k < n
    · have HLr := Lib.hid (HL0.out.below HW.out)
      obtain ⟨ba, oa, rfl⟩ := HLr.out.form (by omega)
      obtain ⟨x, hx⟩ : ∃ x, l.getD k EvP.none = x := ⟨_, rfl⟩
      have HLD := Lib.hid (evs_load HLr.out (i := k) hlt)
      rw [hx] at HLD
      have hxm : x ∈ l := by
        rw [← hx, List.getD_eq_getElem?_getD, List.getElem?_eq_getElem (by rw [HLN.out]; exact hlt), Option.getD_some]
        exact List.getElem_mem _
      have HXI := Lib.hid (HIN.out x hxm)
      have HTK : Hid (l.take (k + 1) = l.take k ++ [x]) := by show _ = _; rw [← hx]; exact take_snoc_ev (by rw [HLN.out]; exact hlt)
      have i0 : (0 : Int) ≤ (k : Int) := by omega
      have i1 : (k : Int) < (n : Int) := by omega
      have HSZ := Lib.hid (evC_size x)
      have HSO := Lib.hid (evC_one x)
      have hba := bel_alloc (Below.refl wr.heap.size wr) (.cells (evC x) 39)
      have HXA : Hid (Has (wr.alloc (.cells (evC x) 39)) wr.heap.size (evC x)) := Has.new wr _ _ rfl
      have q1 := HXA.out.cell 1 (show (evC x)[1]? = some (.int .i64 x.wk) from rfl)
      have q3 := HXA.out.cell 3 (show (evC x)[3]? = some (.int .i64 x.kd) from rfl)
      have z1 := cell_lt q1
      have HBA := Lib.hid (bel_on HW.out hba)
      have HBS := Lib.hid (HB0.out.below HBA.out)
      have HRA := Lib.hid (HR.out.alloc (.cells (evC x) 39))
      have HLX := Lib.hid (has_load_e HXA.out)
      have HCX := Lib.hid (HCK.out x HXI.out)
      clear hx hxm hba
      obtain ⟨xk, hxk⟩ : ∃ xk, Hid (x.kd = xk) := ⟨_, rfl⟩
      obtain ⟨xw, hxw⟩ : ∃ xw, Hid (x.wk = xw) := ⟨_, rfl⟩
      rw [hxk.out] at q3
      rw [hxw.out] at q1
      have HNO : Hid (ofW may wk x = false → ∃ (k' q' d' : Nat) (B' : Option Addr), (Value.slice B q d) = .slice B' q' d' ∧ (Value.int .i64 ((k : Int) + 1)) = .int .i64 k' ∧ k' + (n - (k + 1)) = n ∧ q' ≤ k' ∧ Hid (((l.take k').filter (ofW may wk)).length = q') ∧ ∀ wz, Below (wr.alloc (.cells (evC x) 39)).heap.size (wr.alloc (.cells (evC x) 39)) wz → Hid (ERow wz w1.heap.size B' q' d' ((l.take k').filter (ofW may wk)))) := fun hno => by
        have e1 : (l.take (k + 1)).filter (ofW may wk) = (l.take k).filter (ofW may wk) := by rw [HTK.out, List.filter_append, List.filter_cons_of_neg (by rw [hno]; simp)]; simp
        exact ⟨k + 1, q, d, B, rfl, by go_num, by omega, by omega, Lib.hid (by rw [e1]; exact HQL.out), fun wz hz => Lib.hid (by rw [e1]; exact HRA.out.below hz)⟩
      by_cases g1 : xw = wk
      · have g1' : (xw == wk) = true := by simpa using g1
        by_cases g2 : xk = 7
        · have g2' : (xk != 7) = false := by simp [g2]
          have hno : ofW may wk x = false := by simp [ofW, hxk.out, g2]
          obtain ⟨k', q', d', B', e1, e2, e3, e4, e5, e6⟩ := HNO.out hno
          have E6 := Lib.hid (e6 _ (Below.refl _ _))
          have E12 := Lib.hid (And.intro e1 e2)
          clear HNO hno g1 g2 e6 e1 e2
          go_wp2_with (first | refine wpList_exec (o := ⟨some 18, _, _, _, _, _⟩) (by rfl) (exec_load_at _ rfl rfl HLD.out) ?_ | refine wpList_laid_e (evC x) 10 _ _ rfl rfl rfl rfl rfl rfl rfl rfl HSZ.out HSO.out ?_)
          go_roundg (n - (k + 1))
          case measure => omega
          case rel => exact ⟨k', q', d', B', E12.out.1, E12.out.2, e3, e4, e5, E6.out, HBA⟩
        · have g2' : (xk != 7) = true := by simpa using g2
          cases hmay : may x with
          | false =>
            have hno : ofW may wk x = false := by simp [ofW, hmay]
            obtain ⟨k', q', d', B', e1, e2, e3, e4, e5, e6⟩ := HNO.out hno
            have E12 := Lib.hid (And.intro e1 e2)
            have HC := Lib.hid (HCX.out false hmay)
            have E6 := Lib.hid e6
            clear HNO hno g1 g2 hmay e1 e2 e6
            go_wp2_with (first | refine wpList_exec (o := ⟨some 18, _, _, _, _, _⟩) (by rfl) (exec_load_at _ rfl rfl HLD.out) ?_ | refine wpList_laid_e (evC x) 10 _ _ rfl rfl rfl rfl rfl rfl rfl rfl HSZ.out HSO.out ?_ | refine wpList_exec (o := ⟨some 29, _, _, _, _, _⟩) (by rfl) (exec_load_st _ rfl rfl HBS.out HZ.out) ?_ | refine wpList_exec (o := ⟨some 30, _, _, _, _, _⟩) (by rfl) (exec_load_at _ rfl rfl HLX.out) ?_)
            refine (HC.out _).mono ?_
            rintro e_r w5 ⟨rfl, hb5⟩
            have HB5 := Lib.hid (bel_on HBA.out hb5)
            have HE5 := E6.out _ hb5
            clear hb5 E6
            go_wp2
            go_roundg (n - (k + 1))
            case measure => omega
            case rel => exact ⟨k', q', d', B', E12.out.1, E12.out.2, e3, e4, e5, HE5, HB5⟩
          | true =>
            have hyes : ofW may wk x = true := by simp [ofW, hmay, hxk.out, hxw.out, g1, g2]
            have e1 : (l.take (k + 1)).filter (ofW may wk) = (l.take k).filter (ofW may wk) ++ [x] := by rw [HTK.out, List.filter_append, List.filter_cons_of_pos hyes]; simp
            have HE1 := Lib.hid e1
            have HC := Lib.hid (HCX.out true hmay)
            clear HNO hyes g1 g2 hmay e1
            go_wp2_with (first | refine wpList_exec (o := ⟨some 18, _, _, _, _, _⟩) (by rfl) (exec_load_at _ rfl rfl HLD.out) ?_ | refine wpList_laid_e (evC x) 10 _ _ rfl rfl rfl rfl rfl rfl rfl rfl HSZ.out HSO.out ?_ | refine wpList_exec (o := ⟨some 29, _, _, _, _, _⟩) (by rfl) (exec_load_st _ rfl rfl HBS.out HZ.out) ?_ | refine wpList_exec (o := ⟨some 30, _, _, _, _, _⟩) (by rfl) (exec_load_at _ rfl rfl HLX.out) ?_)
            refine (HC.out _).mono ?_
            rintro e_r w5 ⟨rfl, hb5⟩
            have HB5 := Lib.hid (bel_on HBA.out hb5)
            have HX5 := Lib.hid (HXA.out.below hb5)
            have HR5 := HRA.out.below hb5
            obtain ⟨A9, c9, w9, hr9, row9, bel9, keep9⟩ := erow_append (HR5.alloc (.cells (evC x) 39)) (evs_one w5 x) (show q + 1 ≤ 100000 by omega) (bel_alloc HB5.out _).size (k := q + 1) rfl
            have HR9 := Lib.hid hr9
            have HW9 := Lib.hid (bel9 w1 (Nat.le_refl _) (bel_alloc HB5.out _))
            have HRW9 := Lib.hid row9
            have HLX5 := Lib.hid (has_load_e HX5.out)
            obtain ⟨bx, hbx⟩ : ∃ bx, Hid (wr.heap.size = bx) := ⟨_, rfl⟩
            rw [hbx.out] at HX5 HLX5
            rw [hbx.out]
            clear hr9 row9 bel9 keep9 HR5 hb5 q1 q3 z1 hbx
            go_wp2_with (first | refine wpList_exec (o := ⟨some 34, _, _, _, _, _⟩) rfl (exec_load_at _ rfl rfl HLX5.out) ?_ | refine wpList_build_e (o := ⟨some 35, _, _, _, _, _⟩) rfl x rfl rfl ?_ | (at_builtin; refine wpList_append_run (o := ⟨some 36, _, _, _, _, _⟩) HR9.out rfl rfl rfl rfl ?_))
            go_roundg (n - (k + 1))
            case measure => omega
            case rel => exact ⟨k + 1, q + 1, c9, A9, rfl, by go_num, by omega, by omega, Lib.hid (by rw [HE1.out, List.length_append, HQL.out]; rfl), Lib.hid (by rw [HE1.out]; exact HRW9.out), HW9⟩
      · have g1' : (xw == wk) = false := beq_eq_false_iff_ne.2 g1
        have hno : ofW may wk x = false := by simp [ofW, hxw.out, g1]
        obtain ⟨k', q', d', B', e1, e2, e3, e4, e5, e6⟩ := HNO.out hno
        have E6 := Lib.hid (e6 _ (Below.refl _ _))
        have E12 := Lib.hid (And.intro e1 e2)
        clear HNO hno g1 e6 e1 e2
        go_wp2_with (first | refine wpList_exec (o := ⟨some 18, _, _, _, _, _⟩) (by rfl) (exec_load_at _ rfl rfl HLD.out) ?_ | refine wpList_laid_e (evC x) 10 _ _ rfl rfl rfl rfl rfl rfl rfl rfl HSZ.out HSO.out ?_)
        go_roundg (n - (k + 1))
        case measure => omega
        case rel => exact ⟨k', q', d', B', E12.out.1, E12.out.2, e3, e4, e5, E6.out, HBA⟩
    · obtain rfl : k = n := by omega
      have eT : l.take k = l := by rw [← HLN.out]; exact List.take_length
      rw [eT] at HQL HR
      have HEv := Lib.hid (HR.out.evs HQL.out)
      have HB1 := Lib.hid HW.out
      clear eT HR HW HCK
      go_wp2_with fail
      refine (esort_any B q d (l.filter (ofW may wk)) _ HEv.out (by omega)).mono ?_
      rintro e_r w2 ⟨A2, c2, rfl, hb2, hE2⟩
      rw [← HWF.out] at hE2
      have HE2 := Lib.hid hE2
      have HB2 := Lib.hid (bel_on HB1.out hb2)
      have HG2 := Lib.hid (HG0.out.below HB2.out)
      have HLQ := Lib.hid hE2.2
      have HFIN : Hid (Below w.heap.size w w2) := bel_on hb1 HB2.out
      clear hb2 hE2 HEv HB1 HQL
      obtain ⟨L, hL⟩ : ∃ L, Hid (wevs may wk l = L) := ⟨_, rfl⟩
      rw [hL.out] at HE2 HOK HRT HLQ
      go_wp2
      go_loopg [41] q (fun kx s41 wr => ∃ j : Nat, s41 = .int .i64 j ∧ j + kx = q ∧ Hid (StW w2 wr g u cap (runT cap none (L.take j)) (segsS (fun t => roundP t u) (runE cap none (L.take j))) (flagsS (runE cap none (L.take j)))) ∧ Hid (∃ t, Opn t (runT cap none (L.take j)) ∧ ∀ b ∈ L.drop j, t ≤ b.tm))
      case atStart => exact ⟨0, rfl, by omega, Lib.hid ⟨_, _, _, _, _, _, Wat.start HG2.out⟩, Lib.hid ⟨0, trivial, fun b hb => (HOK.out b (by simpa using hb)).1⟩⟩
      case round =>
        obtain ⟨j, rfl, hj, HST, HOP⟩ := hrel
        by_cases hlt : j < q
        · obtain ⟨b2, o2, rfl⟩ := HE2.out.form (by omega)
          obtain ⟨x, hx⟩ : ∃ x, L.getD j EvP.none = x := ⟨_, rfl⟩
          have hb2l := cell_lt (HE2.out.cell (i := 0) (j := 0) (by omega) (by decide))
          have hb2n := evs_off HE2.out (by omega) HG2.out (Nat.le_of_ble_eq_true rfl)
          have HEr := Lib.hid (HE2.out.keep (w' := wr) fun ad had => by
            injection had with had
            subst had
            exact HST.out.kept.block b2 ⟨hb2l, hb2n⟩)
          have HLD := Lib.hid (evs_load HEr.out (i := j) hlt)
          rw [hx] at HLD
          have hdr : L.drop j = x :: L.drop (j + 1) := by
            have hl : j < L.length := by rw [HLQ.out]; exact hlt
            rw [List.drop_eq_getElem_cons hl, ← hx]
            simp [List.getD, hl]
          have htk : L.take (j + 1) = L.take j ++ [x] := by rw [← hx]; exact take_snoc_ev (by rw [HLQ.out]; exact hlt)
          have hxm : x ∈ L := List.mem_of_mem_drop (by rw [hdr]; simp)
          obtain ⟨t, ho, hot⟩ := HOP.out
          have hxt := hot x (by rw [hdr]; simp)
          have hx0 := HOK.out x hxm
          have hcp : 0 ≤ cap ∧ cap ≤ 100000 := by have := HU.out.2; omega
          have huu : 1 ≤ u ∧ u ≤ 100000000 := by have := HU.out.1; omega
          have hln := run_len (cap := cap) (fun t => roundP t u) (L.take j) none
          have e0 : stN none = 0 := rfl
          have e1 : openN none = 0 := rfl
          rw [e0, e1] at hln
          have htl : (L.take j).length ≤ 800 := by rw [List.length_take, HLQ.out]; omega
          have hba := bel_alloc (Below.refl wr.heap.size wr) (.cells (evC x) 39)
          have HTK := Lib.hid (wtake_any (HST.out.below hba) x t ho hxt hx0 hcp huu (by omega) (by omega))
          have HOP' : Hid (∃ t, Opn t (runT cap none (L.take (j + 1))) ∧ ∀ b ∈ L.drop (j + 1), t ≤ b.tm) := by
            refine ⟨x.tm, ?_, fun b hb => ?_⟩
            · rw [htk, runT_more]; exact opn_step ho x hxt hx0.1
            · have hp := HRT.out
              have hp2 : (L.drop j).Pairwise (fun a b => a.tm ≤ b.tm) := hp.sublist (List.drop_sublist _ _)
              rw [hdr, List.pairwise_cons] at hp2
              exact hp2.1 b hb
          have HT1 : Hid (runT cap none (L.take (j + 1)) = (stepS cap (runT cap none (L.take j)) x).2 ∧ runE cap none (L.take (j + 1)) = runE cap none (L.take j) ++ (stepS cap (runT cap none (L.take j)) x).1) := by
            refine ⟨?_, ?_⟩
            · rw [htk, runT_more]
            · rw [htk, runE_more]
          have HXA : Hid (Has (wr.alloc (.cells (evC x) 39)) wr.heap.size (evC x)) := Has.new wr _ _ rfl
          have HLX := Lib.hid (has_load_e HXA.out)
          have HSZ := Lib.hid (evC_size x)
          have HSO := Lib.hid (evC_one x)
          have i0 : (0 : Int) ≤ (j : Int) := by omega
          have i1 : (j : Int) < (q : Int) := by omega
          clear hx hb2l hb2n HEr hdr htk hxm ho hot hxt hx0 hcp huu hln htl hba HOP HST e0 e1
          go_wp2_with (first | refine wpList_exec (o := ⟨some 44, _, _, _, _, _⟩) (by rfl) (exec_load_at _ rfl rfl HLD.out) ?_ | refine wpList_laid_e (evC x) 12 _ _ rfl rfl rfl rfl rfl rfl rfl rfl HSZ.out HSO.out ?_ | refine wpList_exec (o := ⟨some 46, _, _, _, _, _⟩) (by rfl) (exec_load_at _ rfl rfl HLX.out) ?_)
          refine HTK.out.mono ?_
          rintro e_r w5 ⟨rfl, hst5⟩
          rw [← HT1.out.1] at hst5
          have HS5 : Hid (StW w2 w5 g u cap (runT cap none (L.take (j + 1))) (segsS (fun t => roundP t u) (runE cap none (L.take (j + 1)))) (flagsS (runE cap none (L.take (j + 1))))) := by
            show StW _ _ _ _ _ _ _ _
            rw [HT1.out.2, segsS_append, flagsS_append]
            exact hst5
          clear hst5 HTK HT1
          go_wp2
          go_roundg (q - (j + 1))
          case measure => omega
          case rel => exact ⟨j + 1, by go_num, by omega, HS5, HOP'⟩
        · obtain rfl : j = q := by omega
          have eT : L.take j = L := by rw [← HLQ.out]; exact List.take_length
          rw [eT] at HST
          go_wp2
          go_end0
          have hL2 := hL.out
          subst hL2
          exact ⟨rfl, w2, HFIN.out, HGL.out, HST.out⟩
end Go.Proofs.Ytbijaaglmhoopaa

namespace Go.Proofs.Ytbijaaglmhoopaa
open Go.RowKit
set_option linter.unusedVariables false
set_option linter.unusedSimpArgs false
set_option maxRecDepth 20000

theorem items_rest (cap : Int) : ∀ (A : List EvP) (st : StP), itemsS cap st A = runE cap st A ++ closeS cap (runT cap st A)
  | [], st => rfl
  | b :: A, st => by
    show (stepS cap st b).1 ++ itemsS cap _ A = ((stepS cap st b).1 ++ runE cap _ A) ++ _
    rw [items_rest cap A, List.append_assoc]
    rfl
theorem opn_run (cap : Int) : ∀ (A : List EvP) (st : StP) (t : Int), Opn t st → (∀ b ∈ A, t ≤ b.tm) → A.Pairwise (fun a b => a.tm ≤ b.tm) → (∀ b ∈ A, 0 ≤ b.tm ∧ b.tm ≤ 31449599) → t ≤ 31449599 → ∃ t', t' ≤ 31449599 ∧ Opn t' (runT cap st A)
  | [], st, t, h, _, _, _, ht => ⟨t, ht, h⟩
  | b :: A, st, t, h, h1, h2, h3, ht => by
    rw [List.pairwise_cons] at h2
    exact opn_run cap A _ b.tm (opn_step h b (h1 b (by simp)) (h3 b (by simp)).1) h2.1 h2.2 (fun c hc => h3 c (by simp [hc])) (h3 b (by simp)).2
section
variable {w0 w : World} {g : Nat} {u cap : Int} {st : StP} {S : List SegP} {F : List FlagP}
/-- Behind the last event. -/
theorem wpass_last (h : StW w0 w g u cap st S F) (t : Int) (ht : t ≤ 31449599) (ho : Opn t st) (hc : 0 ≤ cap ∧ cap ≤ 100000) (hu : 1 ≤ u ∧ u ≤ 100000000) (hlen : S.length + stN st ≤ 800) (hlen2 : F.length + openN st ≤ 800) :
    Calls Try.prog 25 #[.pointer (some ⟨g, 0, none⟩), .int .i64 32054400] w fun x w' => x = .returned (.tuple #[]) ∧
      GotNone w0 w' g u cap (S ++ segsS (fun t => roundP t u) (closeS cap st)) (F ++ flagsS (closeS cap st)) := by
  have hR := roundP_mono hu.1 hu.2
  match st, h, ho with
  | none, ⟨A, n, c, C, m, d, hw⟩, _ =>
    refine (wpass_none hw 32054400).mono ?_
    rintro x w' ⟨rfl, rfl⟩
    refine ⟨rfl, ?_⟩
    simp only [closeS, segsS, flagsS, List.flatMap_nil, List.append_nil]
    exact ⟨A, n, c, C, m, d, hw⟩
  | some (e, ins), ⟨A, n, c, C, m, d, p, D, q, r, hw, hs, hp⟩, ⟨o1, o2, o3, o4⟩ =>
    have hn := hw.hn
    have hm := hw.hm
    have hq := hs.hq
    have hlen' : S.length + (ins.length + 1) ≤ 800 := hlen
    have hlen2' : F.length + 1 ≤ 800 := hlen2
    refine (wpass_end hw hs hp 32054400 (e.tm + cap) rfl (by omega) (by omega) (by omega) _ _ rfl rfl (hR _ _ (by omega)) o4 (by omega) (by omega) (by omega)).mono ?_
    rintro x w' ⟨rfl, A', n', c', C', m', d', h1, h2⟩
    refine ⟨rfl, ?_⟩
    simp only [closeS, segsS, flagsS, List.flatMap_cons, List.flatMap_nil, List.append_nil, segsI, flagsI]
    exact ⟨A', n', c', C', m', d', h1⟩
end
theorem gives_two {w w0 w' : World} {g : Nat} {u cap : Int} {S : List SegP} {F : List FlagP} {A C : Option Addr} {n c m d : Nat} {V : Value} (hw : Wat w0 w' g u cap V A n c S C m d F) (hb : Below w.heap.size w w0) (hg : w.heap.size ≤ g) :
    STwo w w' A S.length c S C F.length d F := by
  have hn := hw.hn
  have hm := hw.hm
  subst hn
  subst hm
  refine ⟨trow_mono hw.a hb.size, trow_mono hw.b hb.size, hw.ne, ?_⟩
  have hk := hw.k
  exact ⟨hk.os.trans hb.os, hk.tape.trans hb.tape, hk.output.trans hb.output, Nat.le_trans hb.size hk.size, fun b h => (hk.block b ⟨by have := hb.size; omega, by omega⟩).trans (hb.block b h)⟩
set_option maxHeartbeats 8000000 in
theorem stream_any (s : SetP) (cs : Array Value) (w : World) (hW : SetW w s cs) (A : Option Addr) (n c : Nat) (l : List EvP) (h : Evs w A n c l) (hn : n ≤ 800) (hIn : ∀ e ∈ l, e.In) (wk : Int) :
    Calls Try.prog 11 #[.agg cs, .slice A n c, .int .i64 wk] w (GivesT w (segsOf s wk l) (flagsOf s wk l)) := by
  have HZ := Lib.hid hW.size
  have mixed : Try.prog.follows Departure.mixedOrders = true := by kernel_rfl
  have hb0 := bel_alloc (Below.refl w.heap.size w) (.cells cs 30)
  have HB0 := Lib.hid (Has.new w 30 cs rfl)
  have HL0 := Lib.hid (h.below hb0)
  have HWW := Lib.hid (hW.below hb0)
  have HB := Lib.hid hb0
  cases hck : checkB s with
  | false =>
    have HC := Lib.hid (scheck_c HWW.out.c hW.f false hck)
    have e1 : segsOf s wk l = [] := by unfold segsOf; rw [hck]; rfl
    have e2 : flagsOf s wk l = [] := by unfold flagsOf; rw [hck]; rfl
    rw [e1, e2]
    clear hW h hck hb0 e1 e2
    go_enter Try.func11, Try.ntmps11
    go_wp2_with (refine wpList_exec (o := ⟨some 9, _, _, _, _, _⟩) (by rfl) (exec_load_st _ rfl rfl HB0.out HZ.out) ?_)
    refine HC.out.mono ?_
    rintro e w1 ⟨rfl, b1⟩
    have HEND : Hid (STwo w w1 none 0 0 [] none 0 0 []) := ⟨TRow.nil _ _, TRow.nil _ _, (fun g e h _ => by cases h), bel_on HB.out b1⟩
    clear b1
    go_wp2
    refine bodyPost_ret (v := .tuple #[.slice none 0 0, .slice none 0 0]) (by simp [results, Try.results11, go_sem]) rfl ⟨none, 0, none, 0, rfl, HEND.out⟩
  | true =>
    have HC := Lib.hid (scheck_c HWW.out.c hW.f true hck)
    have hM := check_iff.1 hck
    have HM := Lib.hid hM
    have e1 : segsOf s wk l = segsS (fun t => roundP t s.unit) (itemsOf s wk l) := by unfold segsOf; rw [if_pos hck]
    have e2 : flagsOf s wk l = flagsS (itemsOf s wk l) := by unfold flagsOf; rw [if_pos hck]
    have HE : Hid (segsOf s wk l = segsS (fun t => roundP t s.unit) (runE s.cap none (wevs (mayE s.places s.elements.length s.classes.length s.gears.length s.rates.length) wk l)) ++ segsS (fun t => roundP t s.unit) (closeS s.cap (runT s.cap none (wevs (mayE s.places s.elements.length s.classes.length s.gears.length s.rates.length) wk l))) ∧
        flagsOf s wk l = flagsS (runE s.cap none (wevs (mayE s.places s.elements.length s.classes.length s.gears.length s.rates.length) wk l)) ++ flagsS (closeS s.cap (runT s.cap none (wevs (mayE s.places s.elements.length s.classes.length s.gears.length s.rates.length) wk l)))) := by
      refine ⟨?_, ?_⟩
      · rw [e1, ← segsS_append, ← items_rest]; rfl
      · rw [e2, ← flagsS_append, ← items_rest]; rfl
    have HLN : Hid ((segsS (fun t => roundP t s.unit) (runE s.cap none (wevs (mayE s.places s.elements.length s.classes.length s.gears.length s.rates.length) wk l))).length + stN (runT s.cap none (wevs (mayE s.places s.elements.length s.classes.length s.gears.length s.rates.length) wk l)) ≤ 800 ∧
        (flagsS (runE s.cap none (wevs (mayE s.places s.elements.length s.classes.length s.gears.length s.rates.length) wk l))).length + openN (runT s.cap none (wevs (mayE s.places s.elements.length s.classes.length s.gears.length s.rates.length) wk l)) ≤ 800) := by
      have h1 := run_len (cap := s.cap) (fun t => roundP t s.unit) (wevs (mayE s.places s.elements.length s.classes.length s.gears.length s.rates.length) wk l) none
      have h2 := wevs_len (mayE s.places s.elements.length s.classes.length s.gears.length s.rates.length) wk l
      have h3 := h.2
      have e0 : stN none = 0 := rfl
      have e1 : openN none = 0 := rfl
      rw [e0, e1] at h1
      refine ⟨?_, ?_⟩
      · have := h1.1; omega
      · have := h1.2; omega
    have HOPN : Hid (∃ t, t ≤ 31449599 ∧ Opn t (runT s.cap none (wevs (mayE s.places s.elements.length s.classes.length s.gears.length s.rates.length) wk l))) := by
      refine opn_run s.cap _ none 0 trivial (fun b hb => (wevs_ok b hb).2.2.2.1) (risen_times (wevs_risen _ _ _)) (fun b hb => (wevs_ok b hb).2.2.2) (by omega)
    have HIN := Lib.hid hIn
    have q8 := HB0.out.cell 8 hW.u
    have q9 := HB0.out.cell 9 hW.k
    have z8 := cell_lt q8
    have HSU := Lib.hid hW.u
    have HSK := Lib.hid hW.k
    clear hW h hck hb0 e1 e2 hM hIn
    go_enter Try.func11, Try.ntmps11
    go_wp2_with (refine wpList_exec (o := ⟨some 9, _, _, _, _, _⟩) (by rfl) (exec_load_st _ rfl rfl HB0.out HZ.out) ?_)
    refine HC.out.mono ?_
    rintro e w1 ⟨rfl, b1⟩
    have HB1 := Lib.hid (bel_on HB.out b1)
    have HG1 := Lib.hid (HB0.out.below b1)
    have HL1 := Lib.hid (HL0.out.below b1)
    have HW1 := Lib.hid (HWW.out.below b1)
    have q8 := HG1.out.cell 8 HSU.out
    have q9 := HG1.out.cell 9 HSK.out
    have z8 := cell_lt q8
    have hbn := bel_alloc (Below.refl w1.heap.size w1) (.cells #[.int .i64 s.unit, .int .i64 s.cap, .pointer none, .slice none 0 0, .slice none 0 0] 64)
    have HEA := Lib.hid (each_any s cs (w1.alloc (.cells #[.int .i64 s.unit, .int .i64 s.cap, .pointer none, .slice none 0 0, .slice none 0 0] 64)) (HW1.out.below hbn) HM.out A n c l (HL1.out.below hbn) hn HIN.out wk w1.heap.size (Has.new w1 _ _ rfl))
    have HGS := Lib.hid (HG1.out.below hbn)
    have HBN := Lib.hid (bel_on HB1.out hbn)
    have HGG := Lib.hid HB1.out.size
    clear b1 hbn HB0 HL0 HWW HB HC HG1 HL1 HW1
    go_wp2_with (refine wpList_exec (o := ⟨some 17, _, _, _, _, _⟩) (by rfl) (exec_load_st _ rfl rfl HGS.out HZ.out) ?_)
    refine HEA.out.mono ?_
    rintro e w2 ⟨rfl, w0, hbw, hgl, hst⟩
    have hcp : 0 ≤ s.cap ∧ s.cap ≤ 100000 := by have := HM.out.cap; omega
    have huu : 1 ≤ s.unit ∧ s.unit ≤ 100000000 := by have := HM.out.unit; omega
    obtain ⟨t, ht, ho⟩ := HOPN.out
    have HPL := Lib.hid (wpass_last hst t ht ho hcp huu HLN.out.1 HLN.out.2)
    have HB2 := Lib.hid (bel_on HBN.out hbw)
    obtain ⟨g, hg⟩ : ∃ g, Hid (w1.heap.size = g) := ⟨_, rfl⟩
    rw [hg.out] at HPL HGG
    rw [hg.out]
    clear hst hgl hbw hcp huu ht ho HEA HGS HBN q8 q9 z8 HOPN hg
    go_wp2_with fail
    refine HPL.out.mono ?_
    rintro e w3 ⟨rfl, A3, n3, c3, C3, m3, d3, hw3⟩
    rw [← HE.out.1, ← HE.out.2] at hw3
    have HEND := Lib.hid (gives_two hw3 HB2.out HGG.out)
    have qa := hw3.h.cell 3 rfl
    have qc := hw3.h.cell 4 rfl
    have za := cell_lt qa
    have hn3 := hw3.hn
    have hm3 := hw3.hm
    clear hw3 HPL
    generalize segsOf s wk l = SG at *
    generalize flagsOf s wk l = FG at *
    subst hn3
    subst hm3
    go_wp2
    go_quiet (fail)
    go_wp2
    refine bodyPost_ret (v := .tuple #[.slice A3 SG.length c3, .slice C3 FG.length d3]) (by simp [results, Try.results11, go_sem]) rfl ⟨A3, c3, C3, d3, rfl, HEND.out.below (below_drewN (Below.refl _ _) _)⟩
end Go.Proofs.Ytbijaaglmhoopaa
