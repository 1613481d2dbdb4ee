/-
  Package setup: Write and Read, each in one form.
  Setups as values with a letter for their cells; lumperref07.Few; setups that the laws lay.
-/
import Derived.Test.YtdhkfhgggkndoaaSetW
import Derived.Test.YtdhkfhgggkndoaaByStr
import Derived.Laws.CopyOwn
import Derived.Laws.Cover1
import Derived.Deep.WholeRow
namespace Go.Proofs.Ytdhkfhgggkndoaa
open Go.RowKit
set_option linter.unusedVariables false
set_option linter.unusedSimpArgs false
set_option maxRecDepth 20000

open Classical in
noncomputable def writeE (s : SetP) : List (BitVec 8) × Int := if s.May then (s.bytes, 0) else ([], 70)
noncomputable def readE (l : List (BitVec 8)) : SetP × Int := match readS l with
  | some s => (s, 0)
  | none => (SetP.none, 70)
theorem writeE_ok {s : SetP} (h : s.May) : writeE s = (s.bytes, 0) := if_pos h
theorem writeE_bad {s : SetP} (h : ¬ s.May) : writeE s = ([], 70) := if_neg h
theorem setwrite_un (s : SetP) (A1 A2 A3 A4 A5 A6 : Option Addr) (c1 c2 c3 c4 c5 c6 : Nat) (w : World) (hs : SetAt w s A1 A2 A3 A4 A5 A6 c1 c2 c3 c4 c5 c6) (hf : s.Fit) (X : List (BitVec 8)) (E : Int) (n : Nat) (hX : writeE s = (X, E)) (hn : X.length = n) :
    Calls Try.prog 8 #[setV s A1 A2 A3 A4 A5 A6 c1 c2 c3 c4 c5 c6] w fun e w' => ∃ A c, e = .returned (.tuple #[.slice A n c, .int .i64 E]) ∧ BRow w' w.heap.size A c X ∧ Below w.heap.size w w' := by
  by_cases h : s.May
  · rw [writeE_ok h] at hX
    obtain ⟨rfl, rfl⟩ := Prod.mk.inj hX
    subst hn
    exact setwrite_ok s A1 A2 A3 A4 A5 A6 c1 c2 c3 c4 c5 c6 w hs hf h
  · rw [writeE_bad h] at hX
    obtain ⟨rfl, rfl⟩ := Prod.mk.inj hX
    subst hn
    refine (setwrite_bad s A1 A2 A3 A4 A5 A6 c1 c2 c3 c4 c5 c6 w hs hf h).mono ?_
    rintro e w' ⟨h1, h2⟩
    exact ⟨none, 0, h1, BRow.nil _ _, h2⟩
theorem setcheck_un (s : SetP) (A1 A2 A3 A4 A5 A6 : Option Addr) (c1 c2 c3 c4 c5 c6 : Nat) (w : World) (hs : SetAt w s A1 A2 A3 A4 A5 A6 c1 c2 c3 c4 c5 c6) (hf : s.Fit) (b : Bool) (hb : checkB s = b) :
    Calls Try.prog 13 #[setV s A1 A2 A3 A4 A5 A6 c1 c2 c3 c4 c5 c6] w fun e w' => e = .returned (.bool b) ∧ Below w.heap.size w w' := by
  subst hb
  exact setcheck_any s A1 A2 A3 A4 A5 A6 c1 c2 c3 c4 c5 c6 w hs hf
theorem beq_any (A B : Option Addr) (n m c d : Nat) (x y : List (BitVec 8)) (b : Bool) (w : World) (hx : Sl 1 w A n c (bytesV x)) (hy : Sl 1 w B m d (bytesV y)) (hb : decide (x = y) = b) :
    Calls Try.prog 32 #[.slice A n c, .slice B m d] w fun e w' => e = .returned (.bool b) ∧ w = w' := by
  have h1 := conv_sl hx
  have h2 := conv_sl hy
  have h3 := txt_eq x y
  rw [hb] at h3
  have H3 := Lib.hid h3
  generalize txtB x = X at *
  generalize txtB y = Y at *
  clear hx hy h3 hb
  go_enter Try.func32, Try.ntmps32
  go_wp2
  go_ret
  refine ⟨?_, rfl⟩
  first | exact ret_bool H3.out | (have := H3.out; simp_all)
theorem wpList_store_has {ops : Array Oper} {rest : List Oper} {o : Oper} {a : Act} {w : World} {Q : Exit → Act → World → Prop} (hgd : o.guard = none) (x y : Operand) (ho : o.op = .store 30 x y)
    (g : Nat) (cs : Array Value) (hx : a.eval x = .pointer (some ⟨g, 0, none⟩)) (hy : a.eval y = .agg cs) (old : Array Value) (hg : Has w g old) (hold : old.size = 23) (hs : cs.size = 23) (h1 : cs.all (·.oneCell') = true)
    (h : wpList Try.prog ops Q rest (a.put o.dst undef) (w.setRow g cs)) : wpList Try.prog ops Q (o :: rest) a w := by
  obtain ⟨t, hg⟩ := hg
  exact wpList_store_row hgd _ x y ho g cs hx hy t old hg (by rw [hs]; kernel_rfl) (by rw [hold, hs]) h1 h
theorem has_setRow {w : World} {g : Nat} {old cs : Array Value} (h : Has w g old) : Has (w.setRow g cs) g cs := by
  obtain ⟨t, h⟩ := h
  exact ⟨t, setRow_heap _ _ _ _ _ _ h⟩
theorem setres_run {fn : Func} {p q : Tmp} (h : fn.results = #[.cell p 30, .tmp q]) (tmps : Array Value) (w : World) (g : Nat) (cs : Array Value) (v : Value) (hp : tmps.getD p undef = .pointer (some ⟨g, 0, none⟩)) (hq : tmps.getD q undef = v) (hg : Has w g cs) (hs : cs.size = 23) :
    (results fn tmps).run Try.prog w = .ok (.tuple #[.agg cs, v]) w := by
  obtain ⟨t, hg⟩ := hg
  have hp' : tmps[p]?.getD undef = .pointer (some ⟨g, 0, none⟩) := by simpa using hp
  have hq' : tmps[q]?.getD undef = v := by simpa using hq
  have hr := run_loadVar_row (P := Try.prog) w g t 30 cs (0, 0) _ hg Try.underlying30 rfl (by rw [hs]; kernel_rfl)
  simp [results, h, hp', hq', asAddr, hr]
theorem none_at (w : World) : SetAt w SetP.none none none none none none none 0 0 0 0 0 0 := ⟨Tab.nil_, Tab.nil_, Tab.nil_, Tab.nil_, Tab.nil_, Tab.nil_⟩
theorem setV_cells (s : SetP) (A1 A2 A3 A4 A5 A6 : Option Addr) (c1 c2 c3 c4 c5 c6 : Nat) (cs : Array Value) (h : setV s A1 A2 A3 A4 A5 A6 c1 c2 c3 c4 c5 c6 = .agg cs) : cs.size = 23 ∧ cs.all (·.oneCell') = true := by
  unfold setV at h
  injection h with h
  subst h
  exact ⟨rfl, by simp [Value.oneCell']⟩
theorem z23_one : z23.all (·.oneCell') = true := (setV_cells SetP.none none none none none none none 0 0 0 0 0 0 z23 rfl).2
theorem readE_ok {l : List (BitVec 8)} (h : (rdS l).May) (h2 : (rdS l).bytes = l) : readE l = (rdS l, 0) := by
  unfold readE
  rw [rdS_read, if_pos ⟨h, h2⟩]
theorem readE_bad {l : List (BitVec 8)} (h : ¬ ((rdS l).May ∧ (rdS l).bytes = l)) : readE l = (SetP.none, 70) := by
  unfold readE
  rw [rdS_read, if_neg h]
set_option maxHeartbeats 4000000 in
theorem setread_un (A : Option Addr) (c m : Nat) (l : List (BitVec 8)) (w : World) (hx : Sl 1 w A m c (bytesV l)) (hmc : m ≤ c) (hm : m ≤ 1000000) (s : SetP) (E : Int) (hX : readE l = (s, E)) :
    Calls Try.prog 10 #[.slice A m c] w fun e w' => ∃ (A1 A2 A3 A4 A5 A6 : Option Addr) (c1 c2 c3 c4 c5 c6 : Nat), e = .returned (.tuple #[setV s A1 A2 A3 A4 A5 A6 c1 c2 c3 c4 c5 c6, .int .i64 E]) ∧ SetAt w' s A1 A2 A3 A4 A5 A6 c1 c2 c3 c4 c5 c6 ∧ Below w.heap.size w w' := by
  have hml := hx.blen
  have HX := Lib.hid hx
  have HT := Lib.hid (fun (wx : World) (hb : Below w.heap.size w wx) (h0 : Has wx w.heap.size z23) (h1 : Has wx (w.heap.size + 1) z23) (h2 : Has wx (w.heap.size + 2) #[.slice A m c]) =>
    rthrough_any w wx (fun b => b = w.heap.size ∨ b = w.heap.size + 1) (w.heap.size + 2) (w.heap.size + 1) w.heap.size z23 l (.inr rfl) (.inl rfl) (by omega) (by omega) h1 h0
      ⟨⟨A, c, by rw [hml]; exact h2, fun w0 hw0 => by rw [hml]; exact hx.below hw0, by omega⟩, hb, by omega, by omega, by have := h1.size; omega⟩ (by omega))
  have HF := Lib.hid (rdS_fit l)
  have HE := Lib.hid hX
  clear hx hX hml
  go_enter Try.func10, Try.ntmps10
  go_wp2_with fail
  refine (HT.out _ ?_ ?_ ?_ ?_).mono ?_
  · (repeat' (first | with_reducible exact Below.refl _ _ | with_reducible assumption | with_reducible refine bel_alloc ?_ _ | with_reducible refine bel_set ?_ ?_ _ | with_reducible refine below_drewN ?_ _ | with_reducible refine below_drew ?_ | (simp; done) | (simp; omega) | omega))
  · unfold z23; (repeat' (first | with_reducible assumption | ((with_reducible refine Has.new _ _ _ ?_); (first | (with_reducible rfl) | (simp; done))) | with_reducible refine Has.alloc ?_ _ | with_reducible refine Has.drewN ?_ _ | with_reducible refine Has.drew ?_))
  · unfold z23; (repeat' (first | with_reducible assumption | ((with_reducible refine Has.new _ _ _ ?_); (first | (with_reducible rfl) | (simp; done))) | with_reducible refine Has.alloc ?_ _ | with_reducible refine Has.drewN ?_ _ | with_reducible refine Has.drew ?_))
  · (repeat' (first | with_reducible assumption | ((with_reducible refine Has.new _ _ _ ?_); (first | (with_reducible rfl) | (simp; done))) | with_reducible refine Has.alloc ?_ _ | with_reducible refine Has.drewN ?_ _ | with_reducible refine Has.drew ?_))
  rintro e w3 ⟨rfl, A1, A2, A3, A4, A5, A6, c1, c2, c3, c4, c5, c6, cs, hcs, hB, hs, hq, hb⟩
  obtain ⟨hz1, hz2⟩ := setV_cells _ _ _ _ _ _ _ _ _ _ _ _ _ _ hcs
  have HZ := Lib.hid hz1
  have HZ2 := Lib.hid hz2
  have HB := Lib.hid hB
  have HQ := Lib.hid hq
  have hB1 := hB.size
  have HS := Lib.hid hs
  have HCS := Lib.hid hcs
  have hs3 : SetAt w3 (rdS l) A1 A2 A3 A4 A5 A6 c1 c2 c3 c4 c5 c6 := hs w3 (Kept.refl _ _)
  by_cases hmay : (rdS l).May
  · have HWr := Lib.hid (setwrite_un (rdS l) A1 A2 A3 A4 A5 A6 c1 c2 c3 c4 c5 c6 w3 hs3 HF.out _ _ _ (writeE_ok hmay) rfl)
    rw [hcs] at HWr
    have HM := Lib.hid hmay
    clear hz1 hz2 hB hq hs hcs HT HF hmay hs3
    go_wp2_with (refine wpList_load_has (by rfl) _ rfl (w.heap.size + 1) rfl cs HB.out HZ.out ?_)
    refine HWr.out.mono ?_
    rintro e w4 ⟨A7, c7, rfl, hr4, hb4⟩
    have hb5 := bel_on hb hb4
    have HEq := Lib.hid (fun b => beq_any A7 A _ m c7 c (rdS l).bytes l b w4 hr4.sl (HX.out.below hb5))
    have HB4 := Lib.hid (HB.out.below hb4)
    have HQ4 := Lib.hid (HQ.out.below hb4)
    have HS4 := Lib.hid (HS.out (w4.setRow w.heap.size cs) ⟨hb4.os, hb4.tape, hb4.output, by simp; exact hb4.size, fun b hbb => by rw [setRow_other _ _ _ _ hbb.2]; exact hb4.block b hbb.1⟩)
    have hB4 := HB4.out.size
    clear HB HQ HS hr4 HWr hb4
    by_cases he : (rdS l).bytes = l
    · have HR : Hid ((s, E) = (rdS l, (0 : Int))) := by
        show _ = _
        rw [← HE.out, readE_ok HM.out he]
      have HEq2 := Lib.hid (HEq.out true (by simp [he]))
      clear HEq he
      generalize (rdS l).bytes.length = n7 at *
      go_wp2_with fail
      refine HEq2.out.mono ?_
      rintro e w5 ⟨rfl, rfl⟩
      go_wp2_with (first | refine wpList_load_has (by rfl) _ rfl (w.heap.size + 1) rfl cs HB4.out HZ.out ?_ | refine wpList_store_has rfl _ _ rfl w.heap.size cs rfl rfl z23 HQ4.out rfl HZ.out HZ2.out ?_)
      refine bodyPost_ret (setres_run Try.results10 _ _ w.heap.size cs (.int .i64 0) rfl rfl (has_setRow HQ4.out) HZ.out) rfl ?_
      obtain ⟨rfl, rfl⟩ := Prod.mk.inj HR.out
      exact ⟨A1, A2, A3, A4, A5, A6, c1, c2, c3, c4, c5, c6, by rw [HCS.out], HS4.out, below_setRow hb5 (Nat.le_refl _) _⟩
    · have HR : Hid ((s, E) = (SetP.none, (70 : Int))) := by
        show _ = _
        rw [← HE.out, readE_bad (fun h => he h.2)]
      have HEq2 := Lib.hid (HEq.out false (by simp [he]))
      clear HEq he HS4
      generalize (rdS l).bytes.length = n7 at *
      go_wp2_with fail
      refine HEq2.out.mono ?_
      rintro e w5 ⟨rfl, rfl⟩
      go_wp2_with (refine wpList_store_has rfl _ _ rfl w.heap.size z23 rfl rfl z23 HQ4.out rfl rfl z23_one ?_)
      refine bodyPost_ret (setres_run Try.results10 _ _ w.heap.size z23 (.int .i64 70) rfl rfl (has_setRow HQ4.out) rfl) rfl ?_
      obtain ⟨rfl, rfl⟩ := Prod.mk.inj HR.out
      exact ⟨none, none, none, none, none, none, 0, 0, 0, 0, 0, 0, rfl, none_at _, below_setRow hb5 (Nat.le_refl _) _⟩
  · have HWr := Lib.hid (setwrite_un (rdS l) A1 A2 A3 A4 A5 A6 c1 c2 c3 c4 c5 c6 w3 hs3 HF.out _ _ _ (writeE_bad hmay) rfl)
    rw [hcs] at HWr
    have HR : Hid ((s, E) = (SetP.none, (70 : Int))) := by
      show _ = _
      rw [← HE.out, readE_bad (fun h => hmay h.1)]
    clear hz1 hz2 hB hq hs hcs HT HF hmay hs3 HS
    go_wp2_with (refine wpList_load_has (by rfl) _ rfl (w.heap.size + 1) rfl cs HB.out HZ.out ?_)
    refine HWr.out.mono ?_
    rintro e w4 ⟨A7, c7, rfl, hr4, hb4⟩
    have hb5 := bel_on hb hb4
    have HQ4 := Lib.hid (HQ.out.below hb4)
    have hB4 := HQ4.out.size
    clear HB HQ hr4 HWr hb4
    go_wp2_with (refine wpList_store_has rfl _ _ rfl w.heap.size z23 rfl rfl z23 HQ4.out rfl rfl z23_one ?_)
    refine bodyPost_ret (setres_run Try.results10 _ _ w.heap.size z23 (.int .i64 70) rfl rfl (has_setRow HQ4.out) rfl) rfl ?_
    obtain ⟨rfl, rfl⟩ := Prod.mk.inj HR.out
    exact ⟨none, none, none, none, none, none, 0, 0, 0, 0, 0, 0, rfl, none_at _, below_setRow hb5 (Nat.le_refl _) _⟩
end Go.Proofs.Ytdhkfhgggkndoaa

namespace Go.Proofs.Ytdhkfhgggkndoaa
open Go.RowKit
set_option linter.unusedVariables false
set_option linter.unusedSimpArgs false
set_option maxRecDepth 20000

/-- The cells cs are those of the setup s. -/
def SetC (w : World) (s : SetP) (cs : Array Value) : Prop := ∃ (A1 A2 A3 A4 A5 A6 : Option Addr) (c1 c2 c3 c4 c5 c6 : Nat), setV s A1 A2 A3 A4 A5 A6 c1 c2 c3 c4 c5 c6 = .agg cs ∧ SetAt w s A1 A2 A3 A4 A5 A6 c1 c2 c3 c4 c5 c6
section
variable {w w' : World} {s : SetP} {cs : Array Value}
theorem SetC.below (h : SetC w s cs) (hb : Below w.heap.size w w') : SetC w' s cs := by
  obtain ⟨A1, A2, A3, A4, A5, A6, c1, c2, c3, c4, c5, c6, h1, h2⟩ := h
  exact ⟨A1, A2, A3, A4, A5, A6, c1, c2, c3, c4, c5, c6, h1, h2.below hb⟩
theorem SetC.size (h : SetC w s cs) : cs.size = 23 := by
  obtain ⟨A1, A2, A3, A4, A5, A6, c1, c2, c3, c4, c5, c6, h1, h2⟩ := h
  exact (setV_cells _ _ _ _ _ _ _ _ _ _ _ _ _ _ h1).1
theorem SetC.one (h : SetC w s cs) : cs.all (·.oneCell') = true := by
  obtain ⟨A1, A2, A3, A4, A5, A6, c1, c2, c3, c4, c5, c6, h1, h2⟩ := h
  exact (setV_cells _ _ _ _ _ _ _ _ _ _ _ _ _ _ h1).2
theorem SetC.wide (h : SetC w s cs) : s.Wide := by
  obtain ⟨A1, A2, A3, A4, A5, A6, c1, c2, c3, c4, c5, c6, h1, h2⟩ := h
  exact h2.wide
theorem swrite_c (h : SetC w s cs) (hf : s.Fit) (X : List (BitVec 8)) (E : Int) (n : Nat) (hX : writeE s = (X, E)) (hn : X.length = n) :
    Calls Try.prog 8 #[.agg cs] w fun e w' => ∃ A c, e = .returned (.tuple #[.slice A n c, .int .i64 E]) ∧ BRow w' w.heap.size A c X ∧ Below w.heap.size w w' := by
  obtain ⟨A1, A2, A3, A4, A5, A6, c1, c2, c3, c4, c5, c6, h1, h2⟩ := h
  rw [← h1]
  exact setwrite_un s A1 A2 A3 A4 A5 A6 c1 c2 c3 c4 c5 c6 w h2 hf X E n hX hn
theorem scheck_c (h : SetC w s cs) (hf : s.Fit) (b : Bool) (hb : checkB s = b) :
    Calls Try.prog 13 #[.agg cs] w fun e w' => e = .returned (.bool b) ∧ Below w.heap.size w w' := by
  obtain ⟨A1, A2, A3, A4, A5, A6, c1, c2, c3, c4, c5, c6, h1, h2⟩ := h
  rw [← h1]
  exact setcheck_un s A1 A2 A3 A4 A5 A6 c1 c2 c3 c4 c5 c6 w h2 hf b hb
end
theorem sread_c (A : Option Addr) (c m : Nat) (l : List (BitVec 8)) (w : World) (hx : Sl 1 w A m c (bytesV l)) (hmc : m ≤ c) (hm : m ≤ 1000000) (s : SetP) (E : Int) (hX : readE l = (s, E)) :
    Calls Try.prog 10 #[.slice A m c] w fun e w' => ∃ cs, e = .returned (.tuple #[.agg cs, .int .i64 E]) ∧ SetC w' s cs ∧ Below w.heap.size w w' := by
  refine (setread_un A c m l w hx hmc hm s E hX).mono ?_
  rintro e w' ⟨A1, A2, A3, A4, A5, A6, c1, c2, c3, c4, c5, c6, h1, h2, h3⟩
  obtain ⟨cs, hcs⟩ : ∃ cs, setV s A1 A2 A3 A4 A5 A6 c1 c2 c3 c4 c5 c6 = .agg cs := ⟨_, rfl⟩
  exact ⟨cs, by rw [h1, hcs], ⟨A1, A2, A3, A4, A5, A6, c1, c2, c3, c4, c5, c6, hcs, h2⟩, h3⟩
/-- In a walk: a variable of type api.Setup is laid. -/
theorem wpList_laidS {ops : Array Oper} {rest : List Oper} {o1 o : Oper} {a : Act} {w : World} {Q : Exit → Act → World → Prop} (cs : Array Value) (d : Tmp) (x y : Operand) (hg1 : o1.guard = none) (ho1 : o1.op = .alloc 30) (hd1 : o1.dst = some d)
    (hgd : o.guard = none) (ho : o.op = .store 30 x y) (hd : o.dst = none) (hx : (a.put o1.dst (.pointer (some ⟨w.heap.size, 0, none⟩))).eval x = .pointer (some ⟨w.heap.size, 0, none⟩)) (hy : (a.put o1.dst (.pointer (some ⟨w.heap.size, 0, none⟩))).eval y = .agg cs)
    (hs : cs.size = 23) (h1 : cs.all (·.oneCell') = true)
    (h : wpList Try.prog ops Q rest (a.put o1.dst (.pointer (some ⟨w.heap.size, 0, none⟩))) (w.alloc (.cells cs 30))) : wpList Try.prog ops Q (o1 :: o :: rest) a w := by
  rw [hd1] at hx hy h
  refine wpList_plain hg1 fun K hK => ?_
  unfold Oper.wp execOp
  simp only [ho1]
  go_simp
  refine hK _ _ ?_
  refine wpList_store_has hgd x y ho w.heap.size cs hx hy z23 (Has.new _ _ _ rfl) rfl hs h1 ?_
  rw [hd]
  have e := World.setRow_alloc_new w z23 cs 30
  unfold z23 at e
  rw [e]
  exact h
theorem has_row_far {w : World} {g g' : Nat} {cs cs' : Array Value} (h : Has w g' cs') (hne : g' ≠ g) : Has (w.setRow g cs) g' cs' := by
  obtain ⟨t, h⟩ := h
  exact ⟨t, by rw [setRow_other _ _ _ _ hne]; exact h⟩
/-! ### Few -/
def mxI (x y : Int) : Int := if y > x then y else x
theorem run_max6 {P : Program} {w : World} (ts : Array TypeId) (t : TypeId) (a b c d e f : Int) : (Builtin.max_ ts t #[.int .i64 a, .int .i64 b, .int .i64 c, .int .i64 d, .int .i64 e, .int .i64 f]).run P w = .ok (.int .i64 (mxI (mxI (mxI (mxI (mxI a b) c) d) e) f)) w := by
  simp [Builtin.max_, Builtin.max2, mxI]
theorem mx_le {x y z : Int} : mxI x y ≤ z ↔ x ≤ z ∧ y ≤ z := by
  unfold mxI
  split <;> omega
theorem wpList_max6 {P : Program} {ops : Array Oper} {rest : List Oper} {o : Oper} {a : Act} {w : World} {Q : Exit → Act → World → Prop} {x1 x2 x3 x4 x5 x6 : Operand} {ts : Array TypeId} (n1 n2 n3 n4 n5 n6 : Int) (hgd : o.guard = none)
    (ho : o.op = .call { callee := .builtin .max, args := #[x1, x2, x3, x4, x5, x6], argTypes := ts }) (h1 : a.eval x1 = .int .i64 n1) (h2 : a.eval x2 = .int .i64 n2) (h3 : a.eval x3 = .int .i64 n3) (h4 : a.eval x4 = .int .i64 n4) (h5 : a.eval x5 = .int .i64 n5) (h6 : a.eval x6 = .int .i64 n6)
    (m : Int) (hm : mxI (mxI (mxI (mxI (mxI n1 n2) n3) n4) n5) n6 = m)
    (h : wpList P ops Q rest (a.put o.dst (.int .i64 m)) w) : wpList P ops Q (o :: rest) a w := by
  refine wpList_plain hgd fun K hK => ?_
  unfold Oper.wp execOp
  simp only [ho, resolve, invoke, builtin, Sem.run_bind, Sem.run_pure, Result.andThen_ok, List.map_toArray, List.map_cons, List.map_nil, h1, h2, h3, h4, h5, h6, run_max6, hm]
  exact hK _ _ h
def SetP.Few (s : SetP) : Prop := s.ways.length ≤ 100 ∧ s.elements.length ≤ 100 ∧ s.classes.length ≤ 100 ∧ s.gears.length ≤ 100 ∧ s.rates.length ≤ 100 ∧ s.tiers.length ≤ 100
instance (s : SetP) : Decidable s.Few := by unfold SetP.Few; infer_instance
set_option maxHeartbeats 2000000 in
theorem few_c {w : World} {s : SetP} {cs : Array Value} (h : SetC w s cs) (b : Bool) (hb : decide s.Few = b) :
    Calls Try.prog 7 #[.agg cs] w fun e w' => e = .returned (.bool b) ∧ Below w.heap.size w w' := by
  obtain ⟨A1, A2, A3, A4, A5, A6, c1, c2, c3, c4, c5, c6, h1, h2⟩ := h
  unfold setV at h1
  injection h1 with h1
  subst h1
  obtain ⟨m, hm⟩ : ∃ m, mxI (mxI (mxI (mxI (mxI s.ways.length s.elements.length) s.classes.length) s.gears.length) s.rates.length) s.tiers.length = m := ⟨_, rfl⟩
  have HM := Lib.hid hm
  have HD : Hid (decide (m ≤ 100) = b) := by
    show _ = _
    rw [← hb, ← hm]
    apply decide_eq_decide.2
    simp only [mx_le, SetP.Few]
    omega
  clear h2 hb hm
  go_enter Try.func7, Try.ntmps7
  go_wp2_with (refine wpList_max6 _ _ _ _ _ _ rfl rfl rfl rfl rfl rfl rfl rfl m HM.out ?_)
  go_ret
  exact ⟨ret_bool HD.out, by (repeat' (first | with_reducible exact Below.refl _ _ | with_reducible assumption | with_reducible refine bel_alloc ?_ _ | with_reducible refine bel_set ?_ ?_ _ | with_reducible refine below_drewN ?_ _ | with_reducible refine below_drew ?_ | (simp; done) | (simp; omega) | omega))⟩
/-! ### least -/
def leastP : SetP := ⟨3, [[0, 2, 300]], 1, 2, [], [], [], 0, 900, 36000, 0, 0, 0, 0, 0, 0, 0, 0, [1500], 0, 0, 0, []⟩
def leastC (N : Nat) : Array Value := #[.int .i64 3, .slice (some ⟨N + 1, 0, none⟩) 1 1, .int .i64 1, .int .i64 2, .slice none 0 0, .slice none 0 0, .slice none 0 0, .int .i64 0, .int .i64 900, .int .i64 36000, .int .i64 0, .int .i64 0, .int .i64 0, .int .i64 0, .int .i64 0, .int .i64 0, .int .i64 0, .int .i64 0, .slice (some ⟨N + 1 + 1, 0, none⟩) 1 1, .int .i64 0, .int .i64 0, .int .i64 0, .slice none 0 0]
theorem leastC_V (N : Nat) : setV leastP (some ⟨N + 1, 0, none⟩) none none none (some ⟨N + 1 + 1, 0, none⟩) none 1 0 0 0 1 0 = .agg (leastC N) := rfl
theorem agg_run {fn : Func} {p : Tmp} (h : fn.results = #[.cell p 30]) (tmps : Array Value) (w : World) (g : Nat) (cs : Array Value) (hp : tmps.getD p undef = .pointer (some ⟨g, 0, none⟩)) (hg : Has w g cs) (hs : cs.size = 23) :
    (results fn tmps).run Try.prog w = .ok (.agg cs) w := by
  obtain ⟨t, hg⟩ := hg
  exact results_cell_row h tmps w g t cs (0, 0) _ hp hg Try.underlying30 rfl (by rw [hs]; kernel_rfl)
theorem tab_row {w : World} {g k : Nat} {r : List Int} (h : Has w g (ints .i64 r).toArray) (hr : r.length = k) (hz : ∀ z ∈ r, In64 z) : Tab k w (some ⟨g, 0, none⟩) 1 1 [r] := by
  refine ⟨⟨by simp [ints, hr], .inr ⟨_, rfl, fun j u hu => ?_⟩⟩, rfl, by simp [hr], by simpa using hz, by omega, by omega⟩
  rw [tab_add, Nat.zero_add]
  refine h.cell j ?_
  simpa using hu
set_option maxHeartbeats 2000000 in
theorem least_c (w : World) : Calls Try.prog 28 #[] w fun e w' => ∃ cs, e = .returned (.agg cs) ∧ SetC w' leastP cs ∧ Below w.heap.size w w' := by
  have H1 := Lib.hid (setV_cells _ _ _ _ _ _ _ _ _ _ _ _ _ _ (leastC_V w.heap.size))
  go_enter Try.func28, Try.ntmps28
  go_wp2_with (refine wpList_store_has rfl _ _ rfl w.heap.size (leastC w.heap.size) rfl rfl z23 (((Has.new _ _ _ rfl).alloc _).alloc _) rfl H1.out.1 H1.out.2 ?_)
  refine bodyPost_ret (agg_run Try.results28 _ _ w.heap.size (leastC w.heap.size) rfl (has_setRow (((Has.new _ _ z23 rfl).alloc _).alloc _)) H1.out.1) rfl ?_
  refine ⟨_, rfl, ⟨some ⟨w.heap.size + 1, 0, none⟩, none, none, none, some ⟨w.heap.size + 1 + 1, 0, none⟩, none, 1, 0, 0, 0, 1, 0, leastC_V _, ?_, Tab.nil_, Tab.nil_, Tab.nil_, ?_, Tab.nil_⟩, below_setRow (bel_alloc (bel_alloc (bel_alloc (Below.refl _ _) _) _) _) (Nat.le_refl _) _⟩
  · refine tab_row (r := [0, 2, 300]) ?_ rfl (by simp [In64])
    exact has_row_far ((Has.new _ _ _ (by simp)).alloc _) (by omega)
  · refine tab_row (r := [1500]) ?_ rfl (by simp [In64])
    exact has_row_far (Has.new _ _ _ (by simp)) (by omega)
end Go.Proofs.Ytdhkfhgggkndoaa
