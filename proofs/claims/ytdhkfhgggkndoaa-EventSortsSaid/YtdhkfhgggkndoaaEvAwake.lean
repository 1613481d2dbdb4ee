/-
  The calls whose answers the document fixes, at the head of layer 8's laws.
-/
import Derived.Test.YtdhkfhgggkndoaaEvTakeB
import Derived.Test.YtdhkfhgggkndoaaEvCheck
import Derived.Test.YtdhkfhgggkndoaaEvSrtB
import Derived.Test.YtdhkfhgggkndoaaByStr
import Derived.Deep.DeepCutAuto
namespace Go.Proofs.Ytdhkfhgggkndoaa
open Go.RowKit
set_option linter.unusedVariables false
set_option linter.unusedSimpArgs false
set_option maxRecDepth 20000

theorem takeE_ok_n (A : Option Addr) (c n m : Nat) (b : List (BitVec 8)) (W : World) (hx : Sl 1 W A n c (bytesV b)) (hmc : n ≤ c) (hm : n ≤ 1000000) (e : EvP) (r2 : List (BitVec 8)) (h : takeE b = some (e, r2)) (hr : r2.length = m) :
    Calls Try.prog 19 #[.slice A n c] W fun e0 w' => ∃ A' c', e0 = .returned (.tuple #[.agg (evC e), .slice A' m c', .int .i64 0]) ∧ BRow w' W.heap.size A' c' r2 ∧ Below W.heap.size W w' := by
  obtain rfl : b.length = n := hx.blen
  subst hr
  exact takeE_ok_c A c b W hx hmc hm e r2 h
theorem takeE_bad_n (A : Option Addr) (c n : Nat) (b : List (BitVec 8)) (W : World) (hx : Sl 1 W A n c (bytesV b)) (hmc : n ≤ c) (hm : n ≤ 1000000) (h : takeE b = none) :
    Calls Try.prog 19 #[.slice A n c] W fun e w' => e = .returned (.tuple #[.agg (evC EvP.none), .slice none 0 0, .int .i64 80]) ∧ Below W.heap.size W w' := by
  obtain rfl : b.length = n := hx.blen
  exact takeE_bad_c A c b W hx hmc hm h
theorem Fair.in {e : EvP} (h : e.Fair) : e.In := by
  have h1 := h.id; have h2 := h.wk; have h3 := h.tm; have h4 := h.kd; have h5 := h.fr; have h6 := h.to; have h7 := h.el; have h8 := h.un; have h9 := h.cl; have h10 := h.ge; have h11 := h.cd
  constructor <;> omega
theorem putE_ok_n (A0 : Option Addr) (m0 c0 n : Nat) (xs : List (BitVec 8)) (e : EvP) (W : World) (hf : e.Fair) (hx : Sl 1 W A0 m0 c0 (bytesV xs)) (hm : m0 ≤ 100000000000) (hn : m0 + e.bytes.length = n) :
    Calls Try.prog 17 #[.slice A0 m0 c0, .agg (evC e)] W fun r w' => ∃ A' c', r = .returned (.tuple #[.slice A' n c', .int .i64 0]) ∧ BRow w' W.heap.size A' c' (xs ++ e.bytes) ∧ Below W.heap.size W w' := by
  subst hn
  exact putE_ok A0 m0 c0 xs e W hf (Fair.in hf) hx hm
def aw1 : EvP := ⟨5, 0, 300, 2, 0, 0, 0, 0, 0, 0, 0⟩
def aw2 : EvP := ⟨6, 0, 300, 0, 0, 0, 0, 0, 0, 0, 0⟩
def aw3 : EvP := ⟨9, 0, 1, 0, 0, 0, 0, 0, 0, 0, 0⟩
def aw4 : EvP := ⟨0, 0, 0, 1, 0, 0, 0, 0, 0, 0, 1⟩
def aw5 : EvP := ⟨0, 0, 0, 3, 0, 0, 0, 0, 0, 0, 0⟩
theorem aw1_fair : aw1.Fair := by decide
theorem aw4_fair : ¬ aw4.Fair := by decide
theorem aw_in {e : EvP} (h : e = aw2 ∨ e = aw4 ∨ e = aw5 ∨ e = aw1) : e.In := by
  rcases h with rfl | rfl | rfl | rfl <;> constructor <;> decide
def awB : List (BitVec 8) := [1#8, 5#8, 0#8, 2#8, 1#8, 44#8, 1#8, 2#8]
theorem aw1_bytes : aw1.bytes = awB := by decide +kernel
theorem aw_take8 : takeE (awB ++ [7#8]) = some (aw1, [7#8]) := by rw [← aw1_bytes]; exact takeE_back aw1_fair _
theorem aw_take0 : takeE [] = none := takeP_no (by rfl)
theorem aw_sort : sortE [aw1, aw2, aw3] = [aw3, aw1, aw2] := by decide +kernel
def awS (N : Nat) : Array Value := #[.int .i64 1, .slice none 0 0, .int .i64 0, .int .i64 0, .slice none 0 0, .slice none 0 0, .slice none 0 0, .int .i64 0, .int .i64 0, .int .i64 0, .int .i64 0, .int .i64 0, .int .i64 0, .int .i64 0, .int .i64 0, .int .i64 0, .int .i64 0, .int .i64 0, .slice (some ⟨N, 0, none⟩) 1 1, .int .i64 0, .int .i64 0, .int .i64 0, .slice none 0 0]
theorem awS_one (N : Nat) : (awS N).all (·.oneCell') = true := by simp [awS, Value.oneCell']
theorem awS_set (N : Nat) : SetS (awS N) 1 0 0 0 1 := ⟨rfl, awS_one N, rfl, ⟨_, _, rfl⟩, ⟨_, _, rfl⟩, ⟨_, _, rfl⟩, ⟨_, _, rfl⟩⟩
theorem aw_may : decide (aw1.May 1 0 0 0 1) = true := by decide
theorem aw_may2 : decide (aw5.May 1 0 0 0 1) = false := by decide
def zS : Array Value := #[.int .i64 0, .slice none 0 0, .int .i64 0, .int .i64 0, .slice none 0 0, .slice none 0 0, .slice none 0 0, .int .i64 0, .int .i64 0, .int .i64 0, .int .i64 0, .int .i64 0, .int .i64 0, .int .i64 0, .int .i64 0, .int .i64 0, .int .i64 0, .int .i64 0, .slice none 0 0, .int .i64 0, .int .i64 0, .int .i64 0, .slice none 0 0]
theorem wpList_load_s {ops : Array Oper} {rest : List Oper} {o : Oper} {a : Act} {w : World} {Q : Exit → Act → World → Prop} (hgd : Region.wanted o (yielded ops a.tmps) = true) (x : Operand) (ho : o.op = .load 30 x)
    (g : Nat) (hx : a.eval x = .pointer (some ⟨g, 0, none⟩)) (cs : Array Value) (hg : Has w g cs) (hs : cs.size = 23)
    (h : wpList Try.prog ops Q rest (a.put o.dst (.agg cs)) w) : wpList Try.prog ops Q (o :: rest) a w := by
  refine wpList_step fun K hK => ?_
  rw [if_pos hgd]
  obtain ⟨t, hg⟩ := hg
  exact wp_load_row _ x ho g hx t cs (0, 0) _ hg Try.underlying30 rfl (by rw [hs]; kernel_rfl) (hK _ _ h)
theorem wpList_laid_s {ops : Array Oper} {rest : List Oper} {o1 o : Oper} {a : Act} {w : World} {Q : Exit → Act → World → Prop} (cs : Array Value) (d : Tmp) (x y : Operand) (hg1 : o1.guard = none) (ho1 : o1.op = .alloc 30) (hd1 : o1.dst = some d)
    (hgd : o.guard = none) (ho : o.op = .store 30 x y) (hd : o.dst = none) (hx : (a.put o1.dst (.pointer (some ⟨w.heap.size, 0, none⟩))).eval x = .pointer (some ⟨w.heap.size, 0, none⟩)) (hy : (a.put o1.dst (.pointer (some ⟨w.heap.size, 0, none⟩))).eval y = .agg cs)
    (hs : cs.size = 23) (h1 : cs.all (·.oneCell') = true)
    (h : wpList Try.prog ops Q rest (a.put o1.dst (.pointer (some ⟨w.heap.size, 0, none⟩))) (w.alloc (.cells cs 30))) : wpList Try.prog ops Q (o1 :: o :: rest) a w := by
  rw [hd1] at hx hy h
  refine wpList_plain hg1 fun K hK => ?_
  unfold Oper.wp execOp
  simp only [ho1]
  go_simp
  refine hK _ _ ?_
  have hz := Has.new w 30 zS rfl
  obtain ⟨t, hz⟩ := hz
  refine wpList_store_row hgd _ x y ho w.heap.size cs hx hy t zS hz (by rw [hs]; kernel_rfl) (by rw [hs]; rfl) h1 ?_
  rw [hd]
  have e := World.setRow_alloc_new w zS cs 30
  unfold zS at e
  exact e ▸ h
theorem aw_cells {w : World} {g : Nat} (h : Has w g (evC aw1)) : w.cell? ⟨g, 0, none⟩ = some (.int .i64 5) ∧ w.cell? ⟨g, 1, none⟩ = some (.int .i64 0) ∧ w.cell? ⟨g, 2, none⟩ = some (.int .i64 300) ∧ w.cell? ⟨g, 3, none⟩ = some (.int .i64 2) ∧ w.cell? ⟨g, 4, none⟩ = some (.int .i64 0) ∧ w.cell? ⟨g, 5, none⟩ = some (.int .i64 0) ∧ w.cell? ⟨g, 6, none⟩ = some (.int .i64 0) ∧ w.cell? ⟨g, 7, none⟩ = some (.int .i64 0) ∧ w.cell? ⟨g, 8, none⟩ = some (.int .i64 0) ∧ w.cell? ⟨g, 9, none⟩ = some (.int .i64 0) ∧ w.cell? ⟨g, 10, none⟩ = some (.int .i64 0) :=
  ⟨h.cell 0 rfl, h.cell 1 rfl, h.cell 2 rfl, h.cell 3 rfl, h.cell 4 rfl, h.cell 5 rfl, h.cell 6 rfl, h.cell 7 rfl, h.cell 8 rfl, h.cell 9 rfl, h.cell 10 rfl⟩
theorem awS_cells {w : World} {g N : Nat} (h : Has w g (awS N)) : w.cell? ⟨g, 0, none⟩ = some (.int .i64 1) ∧ w.cell? ⟨g, 1, none⟩ = some (.slice none 0 0) ∧ w.cell? ⟨g, 2, none⟩ = some (.int .i64 0) ∧ w.cell? ⟨g, 3, none⟩ = some (.int .i64 0) ∧ w.cell? ⟨g, 4, none⟩ = some (.slice none 0 0) ∧ w.cell? ⟨g, 5, none⟩ = some (.slice none 0 0) ∧ w.cell? ⟨g, 6, none⟩ = some (.slice none 0 0) ∧ w.cell? ⟨g, 7, none⟩ = some (.int .i64 0) ∧ w.cell? ⟨g, 8, none⟩ = some (.int .i64 0) ∧ w.cell? ⟨g, 9, none⟩ = some (.int .i64 0) ∧ w.cell? ⟨g, 10, none⟩ = some (.int .i64 0) ∧ w.cell? ⟨g, 11, none⟩ = some (.int .i64 0) ∧ w.cell? ⟨g, 12, none⟩ = some (.int .i64 0) ∧ w.cell? ⟨g, 13, none⟩ = some (.int .i64 0) ∧ w.cell? ⟨g, 14, none⟩ = some (.int .i64 0) ∧ w.cell? ⟨g, 15, none⟩ = some (.int .i64 0) ∧ w.cell? ⟨g, 16, none⟩ = some (.int .i64 0) ∧ w.cell? ⟨g, 17, none⟩ = some (.int .i64 0) ∧ w.cell? ⟨g, 18, none⟩ = some (.slice (some ⟨N, 0, none⟩) 1 1) ∧ w.cell? ⟨g, 19, none⟩ = some (.int .i64 0) ∧ w.cell? ⟨g, 20, none⟩ = some (.int .i64 0) ∧ w.cell? ⟨g, 21, none⟩ = some (.int .i64 0) ∧ w.cell? ⟨g, 22, none⟩ = some (.slice none 0 0) :=
  ⟨h.cell 0 rfl, h.cell 1 rfl, h.cell 2 rfl, h.cell 3 rfl, h.cell 4 rfl, h.cell 5 rfl, h.cell 6 rfl, h.cell 7 rfl, h.cell 8 rfl, h.cell 9 rfl, h.cell 10 rfl, h.cell 11 rfl, h.cell 12 rfl, h.cell 13 rfl, h.cell 14 rfl, h.cell 15 rfl, h.cell 16 rfl, h.cell 17 rfl, h.cell 18 rfl, h.cell 19 rfl, h.cell 20 rfl, h.cell 21 rfl, h.cell 22 rfl⟩
set_option maxHeartbeats 2000000 in
theorem awake8 (w : World) : Calls Try.prog 15 #[] w fun e w' => e = .returned (.bool true) ∧ Below w.heap.size w w' := by
  go_enter Try.func15, Try.ntmps15
  go_wp2_with (first | (refine wpList_laid_e (evC aw1) 1 _ _ rfl rfl rfl rfl rfl rfl rfl rfl rfl (evC_one _) ?_) | (refine wpList_load_e (o := ⟨some 16, _, _, _, _, _⟩) (by rfl) _ rfl w.heap.size rfl (evC aw1) (Has.new w _ _ rfl) rfl ?_))
  refine (putE_ok_n none 0 0 8 [] aw1 _ aw1_fair Sl.nil_ (by omega) (by rw [aw1_bytes]; rfl)).mono ?_
  rintro e w1 ⟨A1, c1, rfl, r1, b1⟩
  rw [aw1_bytes, List.nil_append] at r1
  have H1 := Lib.hid ((Has.new w 43 (evC aw1) rfl).below b1)
  have hb1 := Lib.hid (bel_on (bel_alloc (Below.refl w.heap.size w) _) b1)
  have hsz1 : (w.alloc (.cells (evC aw1) 43)).heap.size ≤ (w1.alloc (.cells #[v8 7#8] 5)).heap.size := by have := b1.size; simp at this ⊢; omega
  -- append(b, 7)
  obtain ⟨A2, c2, w2, hr2, hrow2, hbel2, hgr2, hl2⟩ := brow_append (r1.alloc (.cells #[v8 7#8] 5)) (ys := [7#8]) (sl_byte w1 5 7#8 rfl) (by decide) hsz1
  have hold2 := brow_append_old (r1.alloc (.cells #[v8 7#8] 5)) (ys := [7#8]) (sl_byte w1 5 7#8 rfl) (by decide) (by decide) hr2 hrow2
  have R2 : Hid ((Builtin.append_ #[31, 31] 31 #[.slice A1 8 c1, .slice (some ⟨w1.heap.size, 0, none⟩) 1 1]).run Try.prog (w1.alloc (.cells #[v8 7#8] 5)) = .ok (.slice A2 9 c2) w2) := hr2
  have b2 : Below (w.alloc (.cells (evC aw1) 43)).heap.size (w.alloc (.cells (evC aw1) 43)) w2 := hbel2 _ (Nat.le_refl _) (bel_alloc b1 _)
  have hsl2 := hrow2.slAt (n := 9) rfl
  have hcap2 := hrow2.cap_le (n := 9) rfl
  have B1 : Hid (Sl 1 w2 A1 8 c1 (bytesV awB)) := Lib.hid hold2
  have H1 := Lib.hid ((Has.new w 43 (evC aw1) rfl).below b2)
  have hb2 := Lib.hid (bel_on (bel_alloc (Below.refl w.heap.size w) _) b2)
  clear b1 b2 r1 hr2 hrow2 hbel2 hgr2 hl2 hold2 hsz1
  obtain ⟨g1, hg1⟩ : ∃ g1, w.heap.size = g1 := ⟨_, rfl⟩
  rw [hg1] at H1 ⊢
  clear hg1
  have HS2 := Lib.hid hsl2
  clear hsl2
  go_wp2_with (at_builtin; refine wpList_append_run (o := ⟨some 23, _, _, _, _, _⟩) R2.out rfl rfl rfl rfl ?_)
  clear R2
  refine (takeE_ok_n A2 c2 9 1 (awB ++ [7#8]) _ HS2.out hcap2 (by omega) aw1 [7#8] aw_take8 rfl).mono ?_
  rintro e w3 ⟨A3, c3, rfl, r3, b3⟩
  replace H1 := Lib.hid (H1.out.below b3)
  replace B1 := Lib.hid (B1.out.below b3)
  replace hb2 := Lib.hid (bel_on hb2.out b3)
  have B3 := Lib.hid (r3.slAt (n := 1) rfl)
  clear b3 r3 HS2 hcap2
  go_wp2_with (refine wpList_laid_e (evC aw1) 4 _ _ rfl rfl rfl rfl rfl rfl rfl rfl rfl (evC_one _) ?_)
  have H4 := Lib.hid (Has.new w3 43 (evC aw1) rfl)
  replace H1 := Lib.hid (H1.out.alloc (.cells (evC aw1) 43))
  replace B1 := Lib.hid (B1.out.alloc (.cells (evC aw1) 43))
  replace B3 := Lib.hid (B3.out.alloc (.cells (evC aw1) 43))
  replace hb2 := Lib.hid (bel_alloc hb2.out (.cells (evC aw1) 43))
  generalize w3.alloc (.cells (evC aw1) 43) = w4 at *
  generalize w3.heap.size = g4 at *
  refine (putE_bad none 0 0 aw4 w4 (aw_in (.inr (.inl rfl))) aw4_fair).mono ?_
  rintro e w5 ⟨rfl, b5⟩
  replace H1 := Lib.hid (H1.out.below b5)
  replace H4 := Lib.hid (H4.out.below b5)
  replace B1 := Lib.hid (B1.out.below b5)
  replace B3 := Lib.hid (B3.out.below b5)
  replace hb2 := Lib.hid (bel_on hb2.out b5)
  clear b5
  go_wp2_with fail
  refine (takeE_bad_n none 0 0 [] w5 Sl.nil_ (by omega) (by omega) aw_take0).mono ?_
  rintro e w6 ⟨rfl, b6⟩
  replace H1 := Lib.hid (H1.out.below b6)
  replace H4 := Lib.hid (H4.out.below b6)
  replace B1 := Lib.hid (B1.out.below b6)
  replace B3 := Lib.hid (B3.out.below b6)
  replace hb2 := Lib.hid (bel_on hb2.out b6)
  clear b6
  go_wp2_with (first | (refine wpList_laid_e (evC EvP.none) 9 _ _ rfl rfl rfl rfl rfl rfl rfl rfl rfl (evC_one _) ?_) | (refine wpList_load_e (o := ⟨some 38, _, _, _, _, _⟩) (by rfl) _ rfl g1 rfl #[.int .i64 5, .int .i64 0, .int .i64 300, .int .i64 2, .int .i64 0, .int .i64 0, .int .i64 0, .int .i64 0, .int .i64 0, .int .i64 0, .int .i64 0] (H1.out.alloc _) rfl ?_))
  replace H1 := Lib.hid (H1.out.alloc (.cells (evC EvP.none) 43))
  replace H4 := Lib.hid (H4.out.alloc (.cells (evC EvP.none) 43))
  replace B1 := Lib.hid (B1.out.alloc (.cells (evC EvP.none) 43))
  replace B3 := Lib.hid (B3.out.alloc (.cells (evC EvP.none) 43))
  replace hb2 := Lib.hid (bel_alloc hb2.out (.cells (evC EvP.none) 43))
  have h97 : (w6.alloc (.cells (evC EvP.none) 43)).heap.size = w6.heap.size + 1 := by simp
  generalize w6.alloc (.cells (evC EvP.none) 43) = w7 at *
  generalize w6.heap.size = g9 at *
  have hev : Evs (w7.alloc (.cells (ints .i64 ([aw1, aw2, aw3].map evLs).flatten).toArray 43)) (some ⟨g9 + 1, 0, none⟩) 3 3 [aw1, aw2, aw3] := by
    rw [← h97]
    refine ⟨⟨rfl, .inr ⟨_, rfl, fun j u hu => ?_⟩⟩, rfl⟩
    rw [by_add_none, Nat.zero_add, cell_of_row _ _ _ _ _ (0, 0) (heap_alloc_new w7 _)]
    simpa using hu
  have HEV := Lib.hid hev
  clear hev h97
  refine (sort_few _ 3 3 [aw1, aw2, aw3] _ HEV.out (by omega)).mono ?_
  rintro e w8 ⟨A8, c8, rfl, b8, he8⟩
  rw [aw_sort] at he8
  replace b8 := bel_on (bel_alloc (Below.refl w7.heap.size w7) _) b8
  replace H1 := Lib.hid (H1.out.below b8)
  replace H4 := Lib.hid (H4.out.below b8)
  replace B1 := Lib.hid (B1.out.below b8)
  replace B3 := Lib.hid (B3.out.below b8)
  replace hb2 := Lib.hid (bel_on hb2.out b8)
  obtain ⟨bb, off, rfl⟩ := he8.form (by omega)
  have k0 : w8.cell? ⟨bb, off, none⟩ = some (.int .i64 9) := he8.cell (i := 0) (j := 0) (by omega) (by omega)
  have k2 : w8.cell? ⟨bb, off + 22, none⟩ = some (.int .i64 6) := he8.cell (i := 2) (j := 0) (by omega) (by omega)
  have kb := cell_lt k0
  simp only at kb
  clear b8 he8 HEV
  go_upto_region 10 with (first | (refine wpList_laid_s (awS w8.heap.size) 13 _ _ rfl rfl rfl rfl rfl rfl rfl rfl rfl (awS_one _) ?_))
  change Code.wp _ _ _ _ ((w8.alloc (.cells #[.int .i64 1] 3)).alloc (.cells (awS w8.heap.size) 30))
  replace H1 := Lib.hid ((H1.out.alloc (.cells #[.int .i64 1] 3)).alloc (.cells (awS w8.heap.size) 30))
  replace H4 := Lib.hid ((H4.out.alloc (.cells #[.int .i64 1] 3)).alloc (.cells (awS w8.heap.size) 30))
  replace B1 := Lib.hid ((B1.out.alloc (.cells #[.int .i64 1] 3)).alloc (.cells (awS w8.heap.size) 30))
  replace B3 := Lib.hid ((B3.out.alloc (.cells #[.int .i64 1] 3)).alloc (.cells (awS w8.heap.size) 30))
  replace hb2 := Lib.hid (bel_alloc (bel_alloc hb2.out (.cells #[.int .i64 1] 3)) (.cells (awS w8.heap.size) 30))
  have HS : Hid (Has ((w8.alloc (.cells #[.int .i64 1] 3)).alloc (.cells (awS w8.heap.size) 30)) (w8.heap.size + 1) (awS w8.heap.size)) := Lib.hid (Has.new _ _ _ (by simp))
  replace k0 := (World.cell?_alloc_lt (w8.alloc (.cells #[.int .i64 1] 3)) (.cells (awS w8.heap.size) 30) ⟨bb, off, none⟩ (by simp; omega)).trans ((World.cell?_alloc_lt w8 (.cells #[.int .i64 1] 3) ⟨bb, off, none⟩ (by simp; omega)).trans k0)
  replace k2 := (World.cell?_alloc_lt (w8.alloc (.cells #[.int .i64 1] 3)) (.cells (awS w8.heap.size) 30) ⟨bb, off + 22, none⟩ (by simp; omega)).trans ((World.cell?_alloc_lt w8 (.cells #[.int .i64 1] 3) ⟨bb, off + 22, none⟩ (by simp; omega)).trans k2)
  generalize (w8.alloc (.cells #[.int .i64 1] 3)).alloc (.cells (awS w8.heap.size) 30) = w9 at *
  have q1 : (convert 31 9 (.slice A1 8 c1)).run Try.prog w9 = .ok (.string ⟨#[1, 5, 0, 2, 1, 44, 1, 2]⟩) w9 := conv_sl B1.out
  have q3 : (convert 31 9 (.slice A3 1 c3)).run Try.prog w9 = .ok (.string ⟨#[7]⟩) w9 := conv_sl B3.out
  have hq : ∀ w, (binOp .eql 43 (.agg (evC aw1)) (.agg (evC aw1))).run Try.prog w = .ok (.bool true) w := fun w => by
    have := run_ev_eql aw1 aw1 w
    rw [decide_eq_true rfl] at this
    exact this
  refine wp_region_lit ?_
  refine wpList_step (fun K hK => ?_)
  go_simp
  refine hK _ _ ?_
  clear hK K
  (try simp only [Act.put, List.setIfInBounds_toArray, List.set_cons_zero, List.set_cons_succ])
  refine wpList_step (fun K hK => ?_)
  go_simp
  refine hK _ _ ?_
  clear hK K
  (try simp only [Act.put, List.setIfInBounds_toArray, List.set_cons_zero, List.set_cons_succ])
  refine wpList_step (fun K hK => ?_)
  go_simp
  refine hK _ _ ?_
  clear hK K
  (try simp only [Act.put, List.setIfInBounds_toArray, List.set_cons_zero, List.set_cons_succ])
  refine wpList_step (fun K hK => ?_)
  go_simp
  refine hK _ _ ?_
  clear hK K
  (try simp only [Act.put, List.setIfInBounds_toArray, List.set_cons_zero, List.set_cons_succ])
  refine wpList_step (fun K hK => ?_)
  go_simp
  refine hK _ _ ?_
  clear hK K
  (try simp only [Act.put, List.setIfInBounds_toArray, List.set_cons_zero, List.set_cons_succ])
  refine wpList_step (fun K hK => ?_)
  go_simp
  refine hK _ _ ?_
  clear hK K
  (try simp only [Act.put, List.setIfInBounds_toArray, List.set_cons_zero, List.set_cons_succ])
  refine wpList_step (fun K hK => ?_)
  go_simp
  refine hK _ _ ?_
  clear hK K
  (try simp only [Act.put, List.setIfInBounds_toArray, List.set_cons_zero, List.set_cons_succ])
  refine wpList_step (fun K hK => ?_)
  go_simp
  refine hK _ _ ?_
  clear hK K
  (try simp only [Act.put, List.setIfInBounds_toArray, List.set_cons_zero, List.set_cons_succ])
  refine wpList_load_e (by rfl) _ rfl g4 rfl (evC aw1) H4.out rfl ?_
  (try simp only [Act.put, List.setIfInBounds_toArray, List.set_cons_zero, List.set_cons_succ])
  refine wpList_load_e (by rfl) _ rfl g1 rfl (evC aw1) H1.out rfl ?_
  (try simp only [Act.put, List.setIfInBounds_toArray, List.set_cons_zero, List.set_cons_succ])
  refine wpList_step (fun K hK => ?_)
  go_simp
  refine hK _ _ ?_
  clear hK K
  (try simp only [Act.put, List.setIfInBounds_toArray, List.set_cons_zero, List.set_cons_succ])
  refine wpList_step (fun K hK => ?_)
  go_simp
  refine hK _ _ ?_
  clear hK K
  (try simp only [Act.put, List.setIfInBounds_toArray, List.set_cons_zero, List.set_cons_succ])
  refine wpList_step (fun K hK => ?_)
  go_simp
  refine hK _ _ ?_
  clear hK K
  (try simp only [Act.put, List.setIfInBounds_toArray, List.set_cons_zero, List.set_cons_succ])
  refine wpList_step (fun K hK => ?_)
  go_simp
  refine hK _ _ ?_
  clear hK K
  (try simp only [Act.put, List.setIfInBounds_toArray, List.set_cons_zero, List.set_cons_succ])
  refine wpList_step (fun K hK => ?_)
  go_simp
  refine hK _ _ ?_
  clear hK K
  (try simp only [Act.put, List.setIfInBounds_toArray, List.set_cons_zero, List.set_cons_succ])
  refine wpList_step (fun K hK => ?_)
  go_simp
  refine hK _ _ ?_
  clear hK K
  (try simp only [Act.put, List.setIfInBounds_toArray, List.set_cons_zero, List.set_cons_succ])
  refine wpList_step (fun K hK => ?_)
  go_simp
  refine hK _ _ ?_
  clear hK K
  (try simp only [Act.put, List.setIfInBounds_toArray, List.set_cons_zero, List.set_cons_succ])
  refine wpList_step (fun K hK => ?_)
  go_simp
  refine hK _ _ ?_
  clear hK K
  (try simp only [Act.put, List.setIfInBounds_toArray, List.set_cons_zero, List.set_cons_succ])
  refine wpList_step (fun K hK => ?_)
  go_simp
  refine hK _ _ ?_
  clear hK K
  (try simp only [Act.put, List.setIfInBounds_toArray, List.set_cons_zero, List.set_cons_succ])
  refine wpList_step (fun K hK => ?_)
  go_simp
  refine hK _ _ ?_
  clear hK K
  (try simp only [Act.put, List.setIfInBounds_toArray, List.set_cons_zero, List.set_cons_succ])
  refine wpList_step (fun K hK => ?_)
  go_simp
  refine hK _ _ ?_
  clear hK K
  (try simp only [Act.put, List.setIfInBounds_toArray, List.set_cons_zero, List.set_cons_succ])
  refine wpList_step (fun K hK => ?_)
  go_simp
  refine hK _ _ ?_
  clear hK K
  (try simp only [Act.put, List.setIfInBounds_toArray, List.set_cons_zero, List.set_cons_succ])
  refine wpList_step (fun K hK => ?_)
  go_simp
  refine hK _ _ ?_
  clear hK K
  (try simp only [Act.put, List.setIfInBounds_toArray, List.set_cons_zero, List.set_cons_succ])
  refine wpList_step (fun K hK => ?_)
  go_simp
  refine hK _ _ ?_
  clear hK K
  (try simp only [Act.put, List.setIfInBounds_toArray, List.set_cons_zero, List.set_cons_succ])
  refine wpList_step (fun K hK => ?_)
  go_simp
  refine hK _ _ ?_
  clear hK K
  (try simp only [Act.put, List.setIfInBounds_toArray, List.set_cons_zero, List.set_cons_succ])
  refine wpList_step (fun K hK => ?_)
  go_simp
  refine hK _ _ ?_
  clear hK K
  (try simp only [Act.put, List.setIfInBounds_toArray, List.set_cons_zero, List.set_cons_succ])
  refine wpList_step (fun K hK => ?_)
  go_simp
  refine hK _ _ ?_
  clear hK K
  (try simp only [Act.put, List.setIfInBounds_toArray, List.set_cons_zero, List.set_cons_succ])
  refine wpList_step (fun K hK => ?_)
  go_simp
  refine hK _ _ ?_
  clear hK K
  (try simp only [Act.put, List.setIfInBounds_toArray, List.set_cons_zero, List.set_cons_succ])
  refine wpList_step (fun K hK => ?_)
  go_simp
  refine hK _ _ ?_
  clear hK K
  (try simp only [Act.put, List.setIfInBounds_toArray, List.set_cons_zero, List.set_cons_succ])
  refine wpList_step (fun K hK => ?_)
  go_simp
  refine hK _ _ ?_
  clear hK K
  (try simp only [Act.put, List.setIfInBounds_toArray, List.set_cons_zero, List.set_cons_succ])
  refine wpList_step (fun K hK => ?_)
  go_simp
  refine hK _ _ ?_
  clear hK K
  (try simp only [Act.put, List.setIfInBounds_toArray, List.set_cons_zero, List.set_cons_succ])
  refine wpList_step (fun K hK => ?_)
  go_simp
  refine hK _ _ ?_
  clear hK K
  (try simp only [Act.put, List.setIfInBounds_toArray, List.set_cons_zero, List.set_cons_succ])
  refine wpList_step (fun K hK => ?_)
  go_simp
  refine hK _ _ ?_
  clear hK K
  (try simp only [Act.put, List.setIfInBounds_toArray, List.set_cons_zero, List.set_cons_succ])
  refine wpList_step (fun K hK => ?_)
  go_simp
  refine hK _ _ ?_
  clear hK K
  (try simp only [Act.put, List.setIfInBounds_toArray, List.set_cons_zero, List.set_cons_succ])
  refine wpList_step (fun K hK => ?_)
  go_simp
  refine hK _ _ ?_
  clear hK K
  (try simp only [Act.put, List.setIfInBounds_toArray, List.set_cons_zero, List.set_cons_succ])
  refine wpList_step (fun K hK => ?_)
  go_simp
  refine hK _ _ ?_
  clear hK K
  (try simp only [Act.put, List.setIfInBounds_toArray, List.set_cons_zero, List.set_cons_succ])
  refine wpList_step (fun K hK => ?_)
  go_simp
  refine hK _ _ ?_
  clear hK K
  (try simp only [Act.put, List.setIfInBounds_toArray, List.set_cons_zero, List.set_cons_succ])
  refine wpList_step (fun K hK => ?_)
  go_simp
  refine hK _ _ ?_
  clear hK K
  (try simp only [Act.put, List.setIfInBounds_toArray, List.set_cons_zero, List.set_cons_succ])
  refine wpList_step (fun K hK => ?_)
  go_simp
  refine hK _ _ ?_
  clear hK K
  (try simp only [Act.put, List.setIfInBounds_toArray, List.set_cons_zero, List.set_cons_succ])
  refine wpList_step (fun K hK => ?_)
  go_simp
  refine hK _ _ ?_
  clear hK K
  (try simp only [Act.put, List.setIfInBounds_toArray, List.set_cons_zero, List.set_cons_succ])
  refine wpList_step (fun K hK => ?_)
  go_simp
  refine hK _ _ ?_
  clear hK K
  (try simp only [Act.put, List.setIfInBounds_toArray, List.set_cons_zero, List.set_cons_succ])
  refine wpList_step (fun K hK => ?_)
  go_simp
  refine hK _ _ ?_
  clear hK K
  (try simp only [Act.put, List.setIfInBounds_toArray, List.set_cons_zero, List.set_cons_succ])
  refine wpList_step (fun K hK => ?_)
  go_simp
  refine hK _ _ ?_
  clear hK K
  (try simp only [Act.put, List.setIfInBounds_toArray, List.set_cons_zero, List.set_cons_succ])
  refine wpList_step (fun K hK => ?_)
  go_simp
  refine hK _ _ ?_
  clear hK K
  (try simp only [Act.put, List.setIfInBounds_toArray, List.set_cons_zero, List.set_cons_succ])
  refine wpList_load_s (by rfl) _ rfl (w8.heap.size + 1) rfl (awS w8.heap.size) HS.out rfl ?_
  (try simp only [Act.put, List.setIfInBounds_toArray, List.set_cons_zero, List.set_cons_succ])
  refine wpList_load_e (by rfl) _ rfl g1 rfl (evC aw1) H1.out rfl ?_
  (try simp only [Act.put, List.setIfInBounds_toArray, List.set_cons_zero, List.set_cons_succ])
  refine wpList_step (fun K hK => ?_)
  go_simp
  go_at_call 21
  refine (echeck_any (awS w8.heap.size) 1 0 0 0 1 (awS_set _) aw1 (aw_in (.inr (.inr (.inr rfl)))) w9 true aw_may).mono ?_
  rintro e w10 ⟨rfl, b10⟩
  replace HS := Lib.hid (HS.out.below b10)
  have hbF := bel_on hb2.out b10
  clear b10 q1 q3 hq k0 k2 kb
  refine hK _ _ ?_
  clear hK K
  (try simp only [Act.put, List.setIfInBounds_toArray, List.set_cons_zero, List.set_cons_succ])
  refine wpList_step (fun K hK => ?_)
  go_simp
  refine hK _ _ ?_
  clear hK K
  (try simp only [Act.put, List.setIfInBounds_toArray, List.set_cons_zero, List.set_cons_succ])
  refine wpList_step (fun K hK => ?_)
  go_simp
  refine hK _ _ ?_
  clear hK K
  (try simp only [Act.put, List.setIfInBounds_toArray, List.set_cons_zero, List.set_cons_succ])
  refine wpList_load_s (by rfl) _ rfl (w8.heap.size + 1) rfl (awS w8.heap.size) HS.out rfl ?_
  (try simp only [Act.put, List.setIfInBounds_toArray, List.set_cons_zero, List.set_cons_succ])
  refine wpList_step (fun K hK => ?_)
  go_simp
  refine hK _ _ ?_
  clear hK K
  (try simp only [Act.put, List.setIfInBounds_toArray, List.set_cons_zero, List.set_cons_succ])
  refine wpList_step (fun K hK => ?_)
  go_simp
  go_at_call 21
  refine (echeck_any (awS w8.heap.size) 1 0 0 0 1 (awS_set _) aw5 (aw_in (.inr (.inr (.inl rfl)))) w10 false aw_may2).mono ?_
  rintro e w11 ⟨rfl, b11⟩
  refine hK _ _ ?_
  clear hK K
  go_wp2
  go_ret
  exact ⟨rfl, bel_on hbF b11⟩
end Go.Proofs.Ytdhkfhgggkndoaa
