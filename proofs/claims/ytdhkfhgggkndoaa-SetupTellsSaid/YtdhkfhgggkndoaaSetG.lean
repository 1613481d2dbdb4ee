/-
  Package setup: which money may be; Check.
-/
import Derived.Test.YtdhkfhgggkndoaaSetF
namespace Go.Proofs.Ytdhkfhgggkndoaa
open Go.RowKit
set_option linter.unusedVariables false
set_option linter.unusedSimpArgs false
set_option maxRecDepth 20000

def loT (l : Rows2) : Nat → Int
  | 0 => 0
  | i + 1 => (l.getD i []).getD 0 0 + 1
def tiersB (l : Rows2) : Bool := decide ((l.length : Int) ≤ 8) && allP (fun i => withB ((l.getD i []).getD 0 0) (loT l i) 1000 && withB ((l.getD i []).getD 1 0) 0 100000) l.length
theorem tiers_any (A : Option Addr) (c : Nat) (l : Rows2) (L P : Nat) (w0 w : World) (hT : Tab 2 w0 A l.length c l) (hb : Below w0.heap.size w0 w) (h0 : w0.heap.size ≤ L) (hL : Has w L #[.int .i64 0]) (hP : Has w P #[.func (.func 84) #[] #[]]) (hLP : L ≠ P) :
    Calls Try.prog 85 #[.slice A l.length c, .int .i64 8, .func (.func 86) #[] #[.pointer (some ⟨L, 0, none⟩), .pointer (some ⟨P, 0, none⟩)]] w fun e w' => e = .returned (.bool (tiersB l)) ∧ Chg (fun x => x = L) w w' := by
  have hLs := hL.size
  refine all_tier A c l.length 8 L P l w (fun i w' => Below w0.heap.size w0 w' ∧ Has w' L #[.int .i64 (loT l i)] ∧ Has w' P #[.func (.func 84) #[] #[]] ∧ 0 ≤ loT l i) (fun x => x = L) _ (len_max hT) (by constructor <;> omega) (by omega)
    (fun i w' h => hT.below h.1) ⟨hb, hL, hP, Int.le_refl _⟩ (fun i w' w'' h k => ⟨bel_on h.1 k, h.2.1.below k, h.2.2.1.below k, h.2.2.2⟩)
    (fun i w' hi h => (tier_at _ _ _ L P w' (hT.at_small hi (by decide)) h.2.2.2 h.2.1 h.2.2.1 hLP).mono fun e w'' ⟨q1, q2, q3⟩ => ⟨q1, q2, fun hp => ?_⟩)
  have hw : 0 ≤ (l.getD i []).getD 0 0 := by
    simp only [Bool.and_eq_true, withB, decide_eq_true_eq] at hp
    have := h.2.2.2
    omega
  exact ⟨h.1.trans (q2.below (by have := h.1.size; omega) (fun x hx => by omega)), q3 hp, h.2.2.1.chg (fun hx => hLP hx.symm) q2, by show 0 ≤ _ + 1; omega⟩
def ratesB (l : List Int) : Bool := decide ((l.length : Int) ≤ 16) && allP (fun i => withB (((l.map fun z => [z]).getD i []).getD 0 0) 0 100000) l.length
theorem rates_any (A : Option Addr) (c : Nat) (l : List Int) (w : World) (hT : Tab 1 w A l.length c (l.map fun z => [z])) :
    Calls Try.prog 82 #[.slice A l.length c, .int .i64 16, .func (.func 84) #[] #[]] w fun e w' => e = .returned (.bool (ratesB l)) ∧ Below w.heap.size w w' :=
  (all_rate A c l.length 16 (l.map fun z => [z]) w (fun _ w' => Below w.heap.size w w') (fun _ => False) _ (len_max hT) (by constructor <;> omega) (fun x => x) (fun i w' h => hT.below h) (Below.refl _ _) (fun i w' w'' h k => bel_on h k)
    (fun i w' hi h => (rate_at _ w').mono fun e w'' ⟨q1, q2⟩ => by subst q2; exact ⟨q1, Chg.refl _ _, fun _ => h⟩)).mono
    fun e w' ⟨h1, h2⟩ => ⟨h1, h2.none⟩
def moneyB (s : SetP) : Bool := decide (0 < (s.rates.length : Int)) && ratesB s.rates && withB s.diff 0 100000 && withB s.least 0 100000 && tiersB s.tiers
set_option maxHeartbeats 4000000 in
theorem money_any (s : SetP) (A1 A2 A3 A4 A5 A6 : Option Addr) (c1 c2 c3 c4 c5 c6 : Nat) (w : World) (hs : SetAt w s A1 A2 A3 A4 A5 A6 c1 c2 c3 c4 c5 c6) :
    Calls Try.prog 40 #[setV s A1 A2 A3 A4 A5 A6 c1 c2 c3 c4 c5 c6] w fun e w' => e = .returned (.bool (moneyB s)) ∧ Below w.heap.size w w' := by
  have HT := Lib.hid (fun wx (h : Below w.heap.size w wx) (h2 : Has wx (w.heap.size + 2) #[.int .i64 0]) (h3 : Has wx (w.heap.size + 1) #[.func (.func 84) #[] #[]]) => tiers_any A6 c6 s.tiers (w.heap.size + 2) (w.heap.size + 1) w wx hs.tiers h (by omega) h2 h3 (by omega))
  have HR := Lib.hid (fun wx (h : Below w.heap.size w wx) => rates_any A5 c5 s.rates wx (hs.rates.below h))
  have H1 := Lib.hid (rate_at s.diff)
  have H2 := Lib.hid (rate_at s.least)
  have hlm := len_max hs.rates
  have E : Hid (moneyB s = (decide (0 < (s.rates.length : Int)) && ratesB s.rates && withB s.diff 0 100000 && withB s.least 0 100000 && tiersB s.tiers)) := rfl
  clear hs
  generalize moneyB s = r at *
  generalize ratesB s.rates = r2 at *
  generalize withB s.diff 0 100000 = r3 at *
  generalize withB s.least 0 100000 = r4 at *
  generalize tiersB s.tiers = r5 at *
  unfold setV
  go_enter Try.func40, Try.ntmps40
  go_wp2_with fail
  refine (HT.out _ (by (repeat' (first | with_reducible exact Below.refl _ _ | with_reducible assumption | with_reducible refine bel_alloc ?_ _ | with_reducible refine bel_set ?_ ?_ _ | with_reducible refine below_drewN ?_ _ | with_reducible refine below_drew ?_ | (simp; done) | (simp; omega) | omega))) (by (repeat' (first | with_reducible assumption | ((with_reducible refine Has.new _ _ _ ?_); (first | (with_reducible rfl) | (simp; done))) | with_reducible refine Has.alloc ?_ _ | with_reducible refine Has.drewN ?_ _ | with_reducible refine Has.drew ?_))) (by (repeat' (first | with_reducible assumption | ((with_reducible refine Has.new _ _ _ ?_); (first | (with_reducible rfl) | (simp; done))) | with_reducible refine Has.alloc ?_ _ | with_reducible refine Has.drewN ?_ _ | with_reducible refine Has.drew ?_)))).mono ?_
  rintro e w1 ⟨rfl, hb1⟩
  have hB : Has w1 w.heap.size #[.int .i64 s.places, .slice A1 s.ways.length c1, .int .i64 s.pn, .int .i64 s.pd, .slice A2 s.elements.length c2, .slice A3 s.classes.length c3, .slice A4 s.gears.length c4, .int .i64 s.allow, .int .i64 s.unit, .int .i64 s.cap, .int .i64 s.paid, .int .i64 s.aft, .int .i64 s.brk, .int .i64 s.reg, .int .i64 s.over, .int .i64 s.week, .int .i64 s.nfrom, .int .i64 s.nto, .slice A5 s.rates.length c5, .int .i64 s.diff, .int .i64 s.least, .int .i64 s.fault, .slice A6 s.tiers.length c6] := Has.chg (((Has.new _ _ _ rfl).alloc _).alloc _) (by omega) hb1
  have hP : Has w1 (w.heap.size + 1) #[.func (.func 84) #[] #[]] := Has.chg (by (repeat' (first | with_reducible assumption | ((with_reducible refine Has.new _ _ _ ?_); (first | (with_reducible rfl) | (simp; done))) | with_reducible refine Has.alloc ?_ _ | with_reducible refine Has.drewN ?_ _ | with_reducible refine Has.drew ?_))) (by omega) hb1
  have hb : Below w.heap.size w w1 := (bel_alloc (bel_alloc (bel_alloc (Below.refl _ _) _) _) _).trans (hb1.below (by simp; omega) (fun x hx => by omega))
  have HB := Lib.hid hB
  have HP := Lib.hid hP
  clear hB hP HT hb1
  generalize w.heap.size + 2 = L at *
  generalize w.heap.size + 1 = P at HP ⊢
  generalize w.heap.size = B at HB ⊢
  have k18 := HB.out.cell 18 rfl
  have k19 := HB.out.cell 19 rfl
  have k20 := HB.out.cell 20 rfl
  have kp := HP.out.cell 0 rfl
  have hz := HB.out.size
  have hzp := HP.out.size
  by_cases hr : 0 < (s.rates.length : Int)
  · have hd := Lib.hid (decide_eq_true hr)
    go_wp2_with fail
    refine (HR.out _ hb).mono ?_
    rintro e w2 ⟨rfl, hb2⟩
    replace HB := Lib.hid (HB.out.below hb2)
    replace HP := Lib.hid (HP.out.below hb2)
    replace hb2 := bel_on hb hb2
    clear hb k18 k19 k20 kp hz hzp
    have k19 := HB.out.cell 19 rfl
    have k20 := HB.out.cell 20 rfl
    have kp := HP.out.cell 0 rfl
    have hz := HB.out.size
    have hzp := HP.out.size
    cases r2
    · go_wp2
      go_ret
      exact ⟨ret_bool (by rw [E.out]; simp), hb2⟩
    go_wp2_with fail
    refine (H1.out _).mono ?_
    rintro e w3 ⟨rfl, rfl⟩
    cases r3
    · go_wp2
      go_ret
      exact ⟨ret_bool (by rw [E.out]; simp), hb2⟩
    go_wp2_with fail
    refine (H2.out _).mono ?_
    rintro e w3 ⟨rfl, rfl⟩
    cases r4
    · go_wp2
      go_ret
      exact ⟨ret_bool (by rw [E.out]; simp), hb2⟩
    go_wp2
    go_ret
    exact ⟨ret_bool (by rw [E.out, hd.out]; simp), hb2⟩
  · have hd := Lib.hid (decide_eq_false hr)
    go_wp2
    go_ret
    exact ⟨ret_bool (by rw [E.out, hd.out]; simp), hb⟩
/-! ### Check -/
theorem wpList_load_has {ops : Array Oper} {rest : List Oper} {o : Oper} {a : Act} {w : World} {Q : Exit → Act → World → Prop} (hgd : Region.wanted o (yielded ops a.tmps) = true) (x : Operand) (ho : o.op = .load 30 x)
    (g : Nat) (hx : a.eval x = .pointer (some ⟨g, 0, none⟩)) (cs : Array Value) (hg : Has w g cs) (hs : cs.size = 23)
    (h : wpList Try.prog ops Q rest (a.put o.dst (.agg cs)) w) : wpList Try.prog ops Q (o :: rest) a w := by
  refine wpList_step fun K hK => ?_
  rw [if_pos hgd]
  obtain ⟨t, hg⟩ := hg
  exact wp_load_row _ x ho g hx t cs (0, 0) _ hg Try.underlying30 rfl (by rw [hs]; kernel_rfl) (hK _ _ h)
def checkB (s : SetP) : Bool := groundB s && workB s && timesB s && moneyB s
set_option maxHeartbeats 2000000 in
theorem setcheck_any (s : SetP) (A1 A2 A3 A4 A5 A6 : Option Addr) (c1 c2 c3 c4 c5 c6 : Nat) (w : World) (hs : SetAt w s A1 A2 A3 A4 A5 A6 c1 c2 c3 c4 c5 c6) (hf : s.Fit) :
    Calls Try.prog 13 #[setV s A1 A2 A3 A4 A5 A6 c1 c2 c3 c4 c5 c6] w fun e w' => e = .returned (.bool (checkB s)) ∧ Below w.heap.size w w' := by
  have H1 := Lib.hid (fun wx (h : Below w.heap.size w wx) => ground_any s A1 A2 A3 A4 A5 A6 c1 c2 c3 c4 c5 c6 wx (hs.below h))
  have H2 := Lib.hid (fun wx (h : Below w.heap.size w wx) => work_any s A1 A2 A3 A4 A5 A6 c1 c2 c3 c4 c5 c6 wx (hs.below h) hf)
  have H3 := Lib.hid (fun wx => times_any s A1 A2 A3 A4 A5 A6 c1 c2 c3 c4 c5 c6 wx hf)
  have H4 := Lib.hid (fun wx (h : Below w.heap.size w wx) => money_any s A1 A2 A3 A4 A5 A6 c1 c2 c3 c4 c5 c6 wx (hs.below h))
  have E : Hid (checkB s = (groundB s && workB s && timesB s && moneyB s)) := rfl
  clear hs hf
  generalize checkB s = r at *
  generalize groundB s = r1 at *
  generalize workB s = r2 at *
  generalize timesB s = r3 at *
  generalize moneyB s = r4 at *
  unfold setV at *
  generalize hcs : (#[.int .i64 s.places, .slice A1 s.ways.length c1, .int .i64 s.pn, .int .i64 s.pd, .slice A2 s.elements.length c2, .slice A3 s.classes.length c3, .slice A4 s.gears.length c4, .int .i64 s.allow, .int .i64 s.unit, .int .i64 s.cap, .int .i64 s.paid, .int .i64 s.aft, .int .i64 s.brk, .int .i64 s.reg, .int .i64 s.over, .int .i64 s.week, .int .i64 s.nfrom, .int .i64 s.nto, .slice A5 s.rates.length c5, .int .i64 s.diff, .int .i64 s.least, .int .i64 s.fault, .slice A6 s.tiers.length c6] : Array Value) = cs at *
  have hsz : cs.size = 23 := by rw [← hcs]; rfl
  have HS := Lib.hid hsz
  clear hcs hsz
  go_enter Try.func13, Try.ntmps13
  go_wp2_with (refine wpList_load_has (by rfl) _ rfl w.heap.size rfl cs (Has.new _ _ _ rfl) HS.out ?_)
  refine (H1.out _ (by (repeat' (first | with_reducible exact Below.refl _ _ | with_reducible assumption | with_reducible refine bel_alloc ?_ _ | with_reducible refine bel_set ?_ ?_ _ | with_reducible refine below_drewN ?_ _ | with_reducible refine below_drew ?_ | (simp; done) | (simp; omega) | omega)))).mono ?_
  rintro e w1 ⟨rfl, hb1⟩
  have HB := Lib.hid ((Has.new w 30 cs rfl).below hb1)
  replace hb1 := bel_on (bel_alloc (Below.refl _ _) _) hb1
  cases r1
  · go_wp2
    go_ret
    exact ⟨ret_bool (by rw [E.out]; simp), hb1⟩
  go_wp2_with (refine wpList_load_has (by rfl) _ rfl w.heap.size rfl cs HB.out HS.out ?_)
  refine (H2.out _ hb1).mono ?_
  rintro e w2 ⟨rfl, hb2⟩
  replace HB := Lib.hid (HB.out.below hb2)
  replace hb2 := bel_on hb1 hb2
  cases r2
  · go_wp2
    go_ret
    exact ⟨ret_bool (by rw [E.out]; simp), hb2⟩
  go_wp2_with (refine wpList_load_has (by rfl) _ rfl w.heap.size rfl cs HB.out HS.out ?_)
  refine (H3.out _).mono ?_
  rintro e w3 ⟨rfl, hb3⟩
  replace HB := Lib.hid (HB.out.below hb3)
  replace hb3 := bel_on hb2 hb3
  cases r3
  · go_wp2
    go_ret
    exact ⟨ret_bool (by rw [E.out]; simp), hb3⟩
  go_wp2_with (refine wpList_load_has (by rfl) _ rfl w.heap.size rfl cs HB.out HS.out ?_)
  refine (H4.out _ hb3).mono ?_
  rintro e w4 ⟨rfl, hb4⟩
  replace hb4 := bel_on hb3 hb4
  go_wp2
  go_ret
  exact ⟨ret_bool (by rw [E.out]; simp), hb4⟩
end Go.Proofs.Ytdhkfhgggkndoaa
