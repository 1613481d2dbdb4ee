/-
  lumperref07: Check, and Write.
  Slices of structs of numbers of the call's own: append of one.
  Rows of events of the call's own (append), slices of events cut; where an event is put in.
  Slices of parts, and of flags, in memory: read, of the call's own, appended to, two at a time.
-/
import Derived.Test.YtdlimgpmmkcgmaaGreatZam
import Derived.Test.YtdlimgpmmkcgmaaGreatZak
import Derived.Deep.LoopGhost
import Derived.Lib.Hide
import Derived.Test.YtdlimgpmmkcgmaaGreatZal
import Derived.Test.YtdlimgpmmkcgmaaGreatZaf
import Derived.Deep.DeepCutAuto
import Derived.Test.YtdlimgpmmkcgmaaGreatZab
import Derived.StillTailTactics
import Derived.Test.YtdlimgpmmkcgmaaGreatZad
namespace Go.Proofs.YtdlimgpmmkcgmaaGreat
open Go.RowKit
set_option linter.unusedVariables false
set_option linter.unusedSimpArgs false
set_option maxRecDepth 20000

theorem rates_get {l : List Int} : (∀ i, i < l.length → rateP (l.getD i 0)) ↔ ∀ n ∈ l, rateP n := by
  constructor
  · intro h n hn
    obtain ⟨i, hi, rfl⟩ := List.getElem_of_mem hn
    have := h i hi
    simpa [List.getD, hi] using this
  · intro h i hi
    exact h _ (by simp [List.getD, hi])
open Classical in
theorem rcheck_eq (s : SetP) : (groundB s && (shareB s.pn s.pd && (eleB s.elements && (ratB s.classes && (ratB s.gears && (rtimesB s && decide (rmoneyP s))))))) = checkB s := by
  apply Bool.eq_iff_iff.2
  rw [check_iff]
  unfold rtimesB rmoneyP
  simp only [Bool.and_eq_true, ground_iff, ele_iff, rat_iff, with_iff, decide_eq_true_eq, rates_get]
  constructor
  · rintro ⟨⟨g1, g2⟩, w1, w2, w3, w4, ⟨a1, a2, a3, ⟨⟨⟨⟨⟨t1, t2, t3⟩, t4, t5, t6⟩, t7⟩, t8⟩, t9⟩⟩, m1, m2, m3, m4, m5, m6⟩
    exact ⟨g1, g2, w1, w2, w3, w4, a1, a2, a3, t1, t2, t3, t4, t5, t6, t7, t8, t9, ⟨m3.1, m3.2, m1⟩, m5, m6, m4, m2⟩
  · intro h
    exact ⟨⟨h.places, h.ways⟩, h.pace, h.elements, h.classes, h.gears, ⟨h.allow, h.unit, h.cap, ⟨⟨⟨⟨⟨h.paid, h.aft, h.brk⟩, h.nfrom, h.nto, h.fault⟩, h.reg⟩, h.over⟩, h.week⟩⟩, h.rates.2.2, h.tiers.2, ⟨h.rates.1, h.rates.2.1⟩, h.tiers.1, h.diff, h.least⟩
open Classical in
set_option maxHeartbeats 8000000 in
theorem rsetcheck_c {w : World} {s : SetP} {cs : Array Value} (h : SetC w s cs) (hf : s.Fit) (q : Bool) (hq : checkB s = q) :
    Calls Tryz.prog 31 #[.agg cs] w fun e w' => e = .returned (.bool q) ∧ Below w.heap.size w w' := by
  have HZ := Lib.hid h.size
  have HE := Lib.hid (rcheck_eq s)
  rw [hq] at HE
  have K1 := Lib.hid (fun wx (h : SetC wx s cs) => rways_c h _ rfl)
  have K2 := Lib.hid (fun wx => rshare_any s.pn s.pd wx hf.pn hf.pd _ rfl)
  have K6 := Lib.hid (fun wx (h : SetC wx s cs) => rtimes_c h _ rfl)
  have K7 := Lib.hid (fun wx (h : SetC wx s cs) => rmoney_c h (decide (rmoneyP s)) (by simp))
  have HS := Lib.hid h
  obtain ⟨A1, A2, A3, A4, A5, A6, c1, c2, c3, c4, c5, c6, h1, h2⟩ := h
  have K3 := Lib.hid (fun wx (hb : Below w.heap.size w wx) => relements_any A2 c2 s.elements.length s.elements wx (h2.elements.below hb) _ rfl)
  have K4 := Lib.hid (fun wx (hb : Below w.heap.size w wx) => rshares_any A3 c3 s.classes.length s.classes wx (h2.classes.below hb) _ rfl)
  have K5 := Lib.hid (fun wx (hb : Below w.heap.size w wx) => rshares_any A4 c4 s.gears.length s.gears wx (h2.gears.below hb) _ rfl)
  have g2 : Hid (cs[2]? = some (.int .i64 s.pn) ∧ cs[3]? = some (.int .i64 s.pd) ∧ cs[4]? = some (.slice A2 s.elements.length c2) ∧ cs[5]? = some (.slice A3 s.classes.length c3) ∧ cs[6]? = some (.slice A4 s.gears.length c4)) := by
    unfold setV at h1
    injection h1 with h1
    subst h1
    exact ⟨rfl, rfl, rfl, rfl, rfl⟩
  generalize groundB s = q1 at *
  generalize shareB s.pn s.pd = q2 at *
  generalize eleB s.elements = q3 at *
  generalize ratB s.classes = q4 at *
  generalize ratB s.gears = q5 at *
  generalize rtimesB s = q6 at *
  generalize decide (rmoneyP s) = q7 at *
  clear h1 h2 hf hq
  go_enter Tryz.func31, Tryz.ntmps31
  go_wp2_with (refine wpList_load_has (by rfl) _ rfl w.heap.size rfl cs (Has.new _ _ _ rfl) HZ.out ?_)
  refine (K1.out _ (HS.out.below (bel_alloc (Below.refl _ _) _))).mono ?_
  rintro e w1 ⟨rfl, b1⟩
  have HB := Lib.hid ((Has.new w 30 cs rfl).below b1)
  replace b1 := bel_on (bel_alloc (Below.refl _ _) _) b1
  have r2 := HB.out.cell 2 g2.out.1
  have r3 := HB.out.cell 3 g2.out.2.1
  have hs1 := cell_lt r2
  go_wp2_with fail
  refine (K2.out _).mono ?_
  rintro e w2 ⟨rfl, b2⟩
  replace HB := Lib.hid (HB.out.below b2)
  replace b2 := bel_on b1 b2
  clear b1 r2 r3 hs1
  have r4 := HB.out.cell 4 g2.out.2.2.1
  have hs2 := cell_lt r4
  go_wp2_with fail
  refine (K3.out _ b2).mono ?_
  rintro e w3 ⟨rfl, b3⟩
  replace HB := Lib.hid (HB.out.below b3)
  replace b3 := bel_on b2 b3
  clear b2 r4 hs2
  have r5 := HB.out.cell 5 g2.out.2.2.2.1
  have hs3 := cell_lt r5
  go_wp2_with fail
  refine (K4.out _ b3).mono ?_
  rintro e w4 ⟨rfl, b4⟩
  replace HB := Lib.hid (HB.out.below b4)
  replace b4 := bel_on b3 b4
  clear b3 r5 hs3
  have r6 := HB.out.cell 6 g2.out.2.2.2.2
  have hs4 := cell_lt r6
  go_wp2_with fail
  refine (K5.out _ b4).mono ?_
  rintro e w5 ⟨rfl, b5⟩
  replace HB := Lib.hid (HB.out.below b5)
  replace b5 := bel_on b4 b5
  clear b4 r6 hs4
  go_wp2_with (refine wpList_load_has (by rfl) _ rfl w.heap.size rfl cs HB.out HZ.out ?_)
  refine (K6.out _ (HS.out.below b5)).mono ?_
  rintro e w6 ⟨rfl, b6⟩
  replace HB := Lib.hid (HB.out.below b6)
  replace b6 := bel_on b5 b6
  clear b5
  go_wp2_with (refine wpList_load_has (by rfl) _ rfl w.heap.size rfl cs HB.out HZ.out ?_)
  refine (K7.out _ (HS.out.below b6)).mono ?_
  rintro e w7 ⟨rfl, b7⟩
  replace b7 := bel_on b6 b7
  clear b6 K1 K2 K3 K4 K5 K6 K7 HB HS
  cases q1
  · go_wp2
    go_ret
    exact ⟨ret_bool (by rw [← HE.out]; simp), b7⟩
  cases q2
  · go_wp2
    go_ret
    exact ⟨ret_bool (by rw [← HE.out]; simp), b7⟩
  cases q3
  · go_wp2
    go_ret
    exact ⟨ret_bool (by rw [← HE.out]; simp), b7⟩
  cases q4
  · go_wp2
    go_ret
    exact ⟨ret_bool (by rw [← HE.out]; simp), b7⟩
  cases q5
  · go_wp2
    go_ret
    exact ⟨ret_bool (by rw [← HE.out]; simp), b7⟩
  cases q6
  · go_wp2
    go_ret
    exact ⟨ret_bool (by rw [← HE.out]; simp), b7⟩
  · go_wp2
    go_ret
    exact ⟨ret_bool (by rw [← HE.out]; simp), b7⟩
end Go.Proofs.YtdlimgpmmkcgmaaGreat

namespace Go.Proofs.YtdlimgpmmkcgmaaGreat
open Go.RowKit
set_option linter.unusedVariables false
set_option linter.unusedSimpArgs false

/-- A slice of n structs of k numbers, of the call's own, that lies at 'base' or behind. -/
def TRow (e : TypeId) (k : Nat) (w : World) (base : Nat) (A : Option Addr) (n c : Nat) (rows : Rows2) : Prop :=
  w.ownsRow base e k (.slice A n c) n (ints .i64 rows.flatten)
section
variable {e : TypeId} {k : Nat} {w w' : World} {base n c : Nat} {A : Option Addr} {rows : Rows2}
theorem TRow.nil (w : World) (base : Nat) : TRow e k w base none 0 0 [] := World.ownsRow_nil w base _ _
theorem TRow.keep (h : TRow e k w base A n c rows) (hk : ∀ g, A = some g → w'.heap[g.block]? = w.heap[g.block]?) : TRow e k w' base A n c rows := by
  obtain ⟨hl, hn | ⟨g, cap, cur, hv, hg, hh, rest⟩⟩ := h
  · exact ⟨hl, .inl hn⟩
  · injection hv with e1 e2 e3
    subst e1
    exact ⟨hl, .inr ⟨g, cap, cur, by rw [e3], hg, (hk _ rfl).trans hh, rest⟩⟩
theorem TRow.lt (h : TRow e k w base A n c rows) : ∀ g, A = some g → base ≤ g.block ∧ g.block < w.heap.size := by
  rintro g rfl
  exact World.ownsRow.lt h _ rfl
theorem TRow.below (h : TRow e k w base A n c rows) (hb : Below w.heap.size w w') : TRow e k w' base A n c rows :=
  h.keep fun g hg => hb.block _ (h.lt g hg).2
theorem TRow.alloc (h : TRow e k w base A n c rows) (o : Obj) : TRow e k (w.alloc o) base A n c rows := World.ownsRow.alloc h o
theorem TRow.drew (h : TRow e k w base A n c rows) : TRow e k w.drew base A n c rows := h
theorem TRow.set (h : TRow e k w base A n c rows) {p : Addr} (hp : p.block < base) (v : Value) : TRow e k (w.setCell p v) base A n c rows :=
  h.keep fun g hg => Below.heap_setCell w p v g.block (by have := (h.lt g hg).1; omega)
end
/-- One more, laid for it. -/
theorem trow_lay {t e : TypeId} {k : Nat} {z : Value} (ht : Tryz.prog.underlying t = some (.slice e)) (hinfo : (Tryz.prog.info? e).map (fun i => (i.zero, i.size, i.bytes)) = some (some z, k, 8 * k)) (hz : z.cells.size = k) (hk : 0 < k) (hk4 : k ≤ 4)
    {w : World} {base n c : Nat} {A : Option Addr} {rows : Rows2} (h : TRow e k w base A n c rows) (r : List Int) (hr : r.length = k) (hn : n ≤ 1000) (hbase : base ≤ w.heap.size) {G : Prop}
    (kk : ∀ A' c' w', (Builtin.append_ #[t, t] t #[.slice A n c, .slice (some ⟨w.heap.size, 0, none⟩) 1 1]).run Tryz.prog (w.alloc (.cells (ints .i64 r).toArray e)) = .ok (.slice A' (n + 1) c') w' → TRow e k w' base A' (n + 1) c' (rows ++ [r]) → Kept (fun b => b < base) w w' → G) : G := by
  have hs : Sl k (w.alloc (.cells (ints .i64 r).toArray e)) (some ⟨w.heap.size, 0, none⟩) 1 1 (ints .i64 r) :=
    Sl.of_own (own_new w e k 1 (ints .i64 r).toArray (by simp [ints, hr]) (by simp only [maxLen]; omega))
  have hb : (n + 1) * (8 * k) ≤ 1001 * 32 := Nat.mul_le_mul (by omega) (by omega)
  obtain ⟨A', c', w', h1, h2, hg, hl⟩ := append_any (P := Tryz.prog) (w.alloc (.cells (ints .i64 r).toArray e)) base t t e z k (8 * k) ht hinfo hz hk (World.ownsRow.alloc h _) hs (ints_one .i64 r) (n + 1) rfl (ints .i64 (rows ++ [r]).flatten) (by simp [ints]) (by omega) (by omega) (by simp; omega)
  refine kk A' c' w' h1 h2 (kept_grown (Kept.of_below (bel_alloc (Below.refl _ _) _) fun b hb => by omega) hg (fun ad had => ?_) (fun b hb => by simp; omega))
  have := (h.lt ad had).1
  omega
end Go.Proofs.YtdlimgpmmkcgmaaGreat

namespace Go.Proofs.YtdlimgpmmkcgmaaGreat
open Go.RowKit Go.Sort
set_option linter.unusedVariables false
set_option linter.unusedSimpArgs false
set_option maxRecDepth 20000

/-! ### Slices cut -/
/-! ### Rows -/
theorem wp_append_run8 {P : Program} {o : Oper} {a : Act} {w w' : World} {K : Act → World → Prop} {Q : Exit → Act → World → Prop} {s x : Operand} {t : TypeId} {v u v' : Value}
    (hr : (Builtin.append_ #[t, t] o.type #[v, u]).run P w = .ok v' w')
    (ho : o.op = .call { callee := .builtin .append, args := #[s, x], argTypes := #[t, t] }) (hs : a.eval s = v) (hx : a.eval x = u)
    (h : K (a.put o.dst v') w') : o.wp P a w K Q := by
  unfold Oper.wp execOp
  simp only [ho, resolve, invoke, builtin, Sem.run_bind, Sem.run_pure, Result.andThen_ok, List.map_toArray, List.map_cons, List.map_nil, hs, hx, hr]
  exact h
theorem Evs.keep {w w' : World} {A : Option Addr} {n c : Nat} {l : List EvP} (h : Evs w A n c l) (hk : ∀ g, A = some g → w'.heap[g.block]? = w.heap[g.block]?) : Evs w' A n c l := by
  obtain ⟨⟨hl, h0 | ⟨ad, rfl, hc⟩⟩, hn⟩ := h
  · exact ⟨⟨hl, .inl h0⟩, hn⟩
  · refine ⟨⟨hl, .inr ⟨ad, rfl, fun j u hu => ?_⟩⟩, hn⟩
    rw [← hc j u hu]
    have e := hk _ rfl
    unfold World.cell?
    rw [show (ad.add j).block = ad.block by unfold Addr.add; split <;> rfl, e]
end Go.Proofs.YtdlimgpmmkcgmaaGreat

namespace Go.Proofs.YtdlimgpmmkcgmaaGreat
open Go.RowKit
set_option linter.unusedVariables false
set_option linter.unusedSimpArgs false
set_option maxRecDepth 20000

theorem seg_info : (Tryz.prog.info? 59).map (fun i => (i.zero, i.size, i.bytes)) = some (some (.agg #[.int .i64 0, .int .i64 0, .int .i64 0, .int .i64 0, .int .i64 0]), 5, 40) := by kernel_rfl
abbrev SRow (w : World) (base : Nat) (A : Option Addr) (n c : Nat) (l : List SegP) : Prop := TRow 59 5 w base A n c (l.map segL)
/-- An append of what a slice of structs holds. -/
theorem trow_append {t e : TypeId} {k by_ : Nat} {z : Value} (ht : Tryz.prog.underlying t = some (.slice e)) (hinfo : (Tryz.prog.info? e).map (fun i => (i.zero, i.size, i.bytes)) = some (some z, k, by_)) (hz : z.cells.size = k) (hk : 0 < k) (hby : by_ ≤ 200)
    {w : World} {base n c : Nat} {A : Option Addr} {rows : Rows2} (h : TRow e k w base A n c rows) {B : Option Addr} {m d : Nat} {rows' : Rows2} (hs : Sl k w B m d (ints .i64 rows'.flatten)) (hm : n + m ≤ 100000) (hbase : base ≤ w.heap.size) {q : Nat} (hq : n + m = q) :
    ∃ A' c' w', (Builtin.append_ #[t, t] t #[.slice A n c, .slice B m d]).run Tryz.prog w = .ok (.slice A' q c') w' ∧ TRow e k w' base A' q c' (rows ++ rows') ∧ Kept (fun b => b < base) w w' ∧
      (∀ b, b < w.heap.size → (∀ g, A = some g → g.block ≠ b) → w'.heap[b]? = w.heap[b]?) ∧ (∀ g', A' = some g' → (∃ g, A = some g ∧ g'.block = g.block) ∨ w.heap.size ≤ g'.block) := by
  subst hq
  have hb : (n + m) * by_ ≤ 100000 * 200 := Nat.mul_le_mul hm hby
  obtain ⟨A', c', w', hr, ho, hg, hl⟩ := append_any (P := Tryz.prog) w base t t e z k by_ ht hinfo hz hk h hs (ints_one .i64 _) (n + m) rfl (ints .i64 (rows ++ rows').flatten) (by simp [ints]) (by omega) (by omega) hbase
  have hkeep : ∀ b, b < w.heap.size → (∀ g, A = some g → g.block ≠ b) → w'.heap[b]? = w.heap[b]? := fun b hb hne => by
    refine hg.block b hb ?_
    cases A with
    | none => simp [Value.ownBlock]
    | some g0 =>
      have := hne g0 rfl
      simp only [Value.ownBlock]
      intro q
      simp at q
      omega
  refine ⟨A', c', w', hr, ho, ⟨hg.os, hg.tape, hg.output, hg.size, fun b hb => hkeep b (by omega) fun g e => ?_⟩, hkeep, fun g' e => ?_⟩
  · have := (h.lt g e).1
    omega
  · subst e
    rcases hl with e | e
    · cases A with
      | none => simp [Value.ownBlock] at e
      | some a0 => simp [Value.ownBlock] at e; exact .inl ⟨a0, rfl, e⟩
    · simp [Value.ownBlock] at e; exact .inr (by omega)
/-- One more, laid for it. -/
theorem trow_one {t e : TypeId} {k by_ : Nat} {z : Value} (ht : Tryz.prog.underlying t = some (.slice e)) (hinfo : (Tryz.prog.info? e).map (fun i => (i.zero, i.size, i.bytes)) = some (some z, k, by_)) (hz : z.cells.size = k) (hk : 0 < k) (hby : by_ ≤ 200)
    {w : World} {base n c : Nat} {A : Option Addr} {rows : Rows2} (h : TRow e k w base A n c rows) (r : List Int) (hr : r.length = k) (hm : n ≤ 1000) (hbase : base ≤ w.heap.size) {s : Nat} (hs : w.heap.size = s) :
    ∃ A' c' w', (Builtin.append_ #[t, t] t #[.slice A n c, .slice (some ⟨s, 0, none⟩) 1 1]).run Tryz.prog (w.alloc (.cells (ints .i64 r).toArray e)) = .ok (.slice A' (n + 1) c') w' ∧ TRow e k w' base A' (n + 1) c' (rows ++ [r]) ∧ Kept (fun b => b < base) w w' ∧
      (∀ b, b < w.heap.size → (∀ g, A = some g → g.block ≠ b) → w'.heap[b]? = w.heap[b]?) ∧ (∀ g', A' = some g' → (∃ g, A = some g ∧ g'.block = g.block) ∨ w.heap.size ≤ g'.block) := by
  subst hs
  have hs' : Sl k (w.alloc (.cells (ints .i64 r).toArray e)) (some ⟨w.heap.size, 0, none⟩) 1 1 (ints .i64 [r].flatten) := by
    have := own_new w e k 1 (ints .i64 r).toArray (by simp [ints, hr]) (by simp only [maxLen]; omega)
    have h2 := Sl.of_own this
    simpa using h2
  obtain ⟨A', c', w', h1, h2, h3, h4, h5⟩ := trow_append ht hinfo hz hk hby (h.alloc (.cells (ints .i64 r).toArray e)) hs' (by omega) (by simp; omega) rfl
  refine ⟨A', c', w', h1, h2, ⟨h3.os, h3.tape, h3.output, ?_, fun b hb => ?_⟩, fun b hb hne => ?_, fun g' e' => ?_⟩
  · have := h3.size; simp at this; omega
  · rw [h3.block b hb]; exact Below.heap_alloc w _ b (by omega)
  · rw [h4 b (by simp; omega) hne]; exact Below.heap_alloc w _ b hb
  · rcases h5 g' e' with q | q
    · exact .inl q
    · exact .inr (by simp at q; omega)
section
variable {w0 w w' : World} {A B : Option Addr} {n c m d : Nat} {l : List SegP} {f : List FlagP}
theorem below_kept0 {w0 w w' : World} (h : Below w0.heap.size w0 w) (k : Kept (fun b => b < w0.heap.size) w w') : Below w0.heap.size w0 w' :=
  ⟨k.os.trans h.os, k.tape.trans h.tape, k.output.trans h.output, Nat.le_trans h.size k.size, fun b hb => (k.block b hb).trans (h.block b hb)⟩
end
/-! ### Words of the walk -/
end Go.Proofs.YtdlimgpmmkcgmaaGreat
