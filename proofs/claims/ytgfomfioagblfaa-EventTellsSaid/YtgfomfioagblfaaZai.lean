/-
  The library's insertion sort at events; event.Sort of fewer than twenty.
  The calls whose answers the document fixes, at the head of layer 8's laws.
-/
import Derived.Test.YtgfomfioagblfaaZah
import Derived.Shelf.SlSortCmp.KitK
import Derived.Test.YtgfomfioagblfaaEvTakeB
import Derived.Test.YtgfomfioagblfaaZag
import Derived.Test.YtgfomfioagblfaaZab
import Derived.Deep.DeepCutAuto
namespace Go.Proofs.Ytgfomfioagblfaa
open Go.RowKit Go.Sort
set_option linter.unusedVariables false
set_option linter.unusedSimpArgs false
set_option maxRecDepth 20000

theorem lt_cfE : ltOf cfE = lessE := by funext x y; exact cf_less x y
theorem cmp_lays (blk off size : Nat) (w : World) : CmpLays Try.prog 30 #[] encE 11 cfE blk off size w :=
  fun m os dk _ x y => order_any x y _
theorem grown_sort {w : World} {g n : Nat} {d : Array EvP} {os : Array Obj} : w.grownBy (sortWorldK encE 11 w g 0 n d os) (some g) := by
  refine ⟨rfl, rfl, rfl, size_sortWorldK_c encE 11 w g 0 n d os, fun k hk hne => ?_⟩
  show (Sort.grow _ os).heap[k]? = _
  rw [Sort.heap_grow_old _ _ (by rw [show (Sort.putRowK encE 11 (Sort.ahead w n) g 0 d).heap.size = w.heap.size by simp [Sort.putRowK, Sort.putRow, Sort.mapBlock, Sort.ahead]]; omega)]
  show (w.heap.modify g _)[k]? = _
  rw [Array.getElem?_modify, if_neg (fun e => hne (by rw [e]))]
theorem order_enters : ∀ args w, (callFunc 30 args).run Try.prog w = .ok (.enter 30 args) w := enters_of Try.func30 (by kernel_rfl) rfl
def cmpV : Value := .func (.func 30) #[] #[]
theorem ins_any (g cap a b n : Nat) (d : Array EvP) (w : World) (hH : HoldE w g d) (hg : g < w.heap.size) (hn : d.size = n) (hab : a ≤ b) (hb : b ≤ n) (hsz : n ≤ 1000000) :
    Calls Try.prog 42 #[.slice (some ⟨g, 0, none⟩) n cap, .int .i64 a, .int .i64 b, cmpV] w fun e w' => e = .returned (.tuple #[]) ∧ HoldE w' g (Sort.insertionSort lessE d a b) ∧ w.grownBy w' (some g) := by
  subst hn
  have hcon := AnyQ.insertionSortCmpFunc Try.insEv 11 Try.isAgg33 Try.sizeOf33 encE encE_len encE_one cfE 30 #[] g 0 cap a b d w order_enters (cmp_lays _ _ _ _) hH hg hab hb (by omega)
  change Calls Try.prog 42 _ _ _ at hcon
  refine hcon.mono ?_
  rintro e w' ⟨rfl, n, os, rfl⟩
  rw [lt_cfE]
  refine ⟨rfl, ?_, grown_sort⟩
  exact holdsK_sortWorldK_c encE 11 w g 0 d _ n os hH hg (stab_outer a b _ (a + 1) d rfl hb).2
theorem ins_none_e (p : Option Addr) (cap : Nat) (fv : Value) (w : World) :
    Calls Try.prog 42 #[.slice p 0 cap, .int .i64 0, .int .i64 0, fv] w fun e w' => e = .returned (.tuple #[]) ∧ w = w' := by
  go_enter Try.func42, Try.ntmps42
  go_wp2_with fail
  refine wp_loop_rounds 1 ?_
  rw [rounds_succ]
  go_wp2
  go_end0
  exact ⟨rfl, rfl⟩
/-- 'stableCmpFunc' of fewer than twenty, whatever the insertion sort leaves. -/
theorem stable_few (p : Option Addr) (n cap : Nat) (w : World) (h20 : n < 20) (F : World → Prop)
    (H : Calls Try.prog 42 #[.slice p n cap, .int .i64 (0 : Nat), .int .i64 n, cmpV] w fun e w' => e = .returned (.tuple #[]) ∧ F w') :
    Calls Try.prog 39 #[.slice p n cap, .int .i64 n, cmpV] w fun e w' => e = .returned (.tuple #[]) ∧ F w' := by
  have h1 : ¬ (20 : Int) ≤ (n : Int) := by omega
  have h2 : ¬ (20 : Int) < (n : Int) := by omega
  have h3 : (n : Int) < 20 := by omega
  have HH := Lib.hid H
  clear H
  generalize cmpV = cv at *
  go_enter Try.func39, Try.ntmps39
  go_wp2_with fail
  refine wp_loop_rounds 1 ?_
  rw [rounds_succ]
  go_wp2_with fail
  refine HH.out.mono ?_
  rintro e w1 ⟨rfl, hF⟩
  go_wp2_with fail
  refine wp_loop_rounds 1 ?_
  rw [rounds_succ]
  go_wp2
  go_end0
  exact ⟨rfl, hF⟩
theorem sortstable_of (p : Option Addr) (n cap : Nat) (w : World) (hn : n ≤ 1000000) (F : World → Prop)
    (H : Calls Try.prog 39 #[.slice p n cap, .int .i64 n, cmpV] w fun e w' => e = .returned (.tuple #[]) ∧ F w') :
    Calls Try.prog 32 #[.slice p n cap, cmpV] w fun e w' => e = .returned (.tuple #[]) ∧ F w' := by
  have HH := Lib.hid H
  clear H
  generalize cmpV = cv at *
  go_enter Try.func32, Try.ntmps32
  go_wp2_with fail
  refine HH.out.mono ?_
  rintro e w1 ⟨rfl, hF⟩
  go_wp2
  go_end0
  exact ⟨rfl, hF⟩
/-- event.Sort, by what the library's sort makes of the copy. -/
theorem sort_of (A : Option Addr) (n c : Nat) (l : List EvP) (W : World) (h : Evs W A n c l) (hm : n ≤ 1000000)
    (H : ∀ (g c' : Nat) (w : World), 0 < n → HoldE w g l.toArray → g < w.heap.size → Calls Try.prog 39 #[.slice (some ⟨g, 0, none⟩) n c', .int .i64 n, cmpV] w fun e w' => e = .returned (.tuple #[]) ∧ ∃ d' : Array EvP, HoldE w' g d' ∧ w.grownBy w' (some g) ∧ d'.toList = sortE l) :
    Calls Try.prog 15 #[.slice A n c] W fun e w' => ∃ A' c', e = .returned (.slice A' n c') ∧ Below W.heap.size W w' ∧ Evs w' A' n c' (sortE l) := by
  have HC := Lib.hid (evclone_any A n c l W h hm)
  have hln := h.2
  have HLN := Lib.hid hln
  have HH := Lib.hid H
  clear h hln H
  go_enter Try.func15, Try.ntmps15
  go_wp2_with fail
  refine HC.out.mono ?_
  rintro e w1 ⟨A', c', rfl, hb1, hg1, hz1⟩
  have hS : Calls Try.prog 32 #[.slice A' n c', cmpV] w1 fun e w' => e = .returned (.tuple #[]) ∧ (Below W.heap.size W w' ∧ Evs w' A' n c' (sortE l)) := by
    rcases Nat.eq_zero_or_pos n with h0 | h0
    · subst h0
      refine sortstable_of A' 0 c' w1 hm _ (stable_few A' 0 c' w1 (by omega) _ ((ins_none_e A' c' cmpV w1).mono ?_))
      rintro e w2 ⟨rfl, rfl⟩
      have hl0 : l = [] := List.length_eq_zero_iff.1 HLN.out
      subst hl0
      exact ⟨rfl, hb1, hz1 (by simp)⟩
    · obtain ⟨g, rfl, hWg, hgl, hH⟩ := hg1 h0
      refine sortstable_of _ n c' w1 hm _ ((HH.out g c' w1 h0 hH hgl).mono ?_)
      rintro e w2 ⟨rfl, d', hd, hgr, hdl⟩
      refine ⟨rfl, hb1.grown hgr hb1.size (fun k hk => by injection hk with hk; omega), ?_⟩
      have := evs_of_holdE (c := c') hd
      have hz : d'.size = n := by
        have e1 := congrArg List.length hdl
        rw [(ev_sort_perm l).length_eq, HLN.out] at e1
        simpa using e1
      rw [hz, hdl] at this
      exact this
  have HS := Lib.hid hS
  clear hS hg1 hb1 HC HH
  generalize hcv : cmpV = cv at HS
  unfold cmpV at hcv
  subst hcv
  go_wp2_with fail
  refine HS.out.mono ?_
  rintro e w2 ⟨rfl, hF⟩
  go_wp2
  go_ret
  exact ⟨A', c', rfl, hF.1, hF.2⟩
theorem sort_few (A : Option Addr) (n c : Nat) (l : List EvP) (W : World) (h : Evs W A n c l) (h20 : n < 20) :
    Calls Try.prog 15 #[.slice A n c] W fun e w' => ∃ A' c', e = .returned (.slice A' n c') ∧ Below W.heap.size W w' ∧ Evs w' A' n c' (sortE l) := by
  refine sort_of A n c l W h (by omega) (fun g c' w h0 hH hgl => stable_few _ n c' w h20 _ ?_)
  have hz : l.toArray.size = n := by simpa using h.2
  refine (ins_any g c' 0 n n l.toArray w hH hgl hz (by omega) (Nat.le_refl _) (by omega)).mono ?_
  rintro e w' ⟨rfl, h1, h2⟩
  have hm := ins_mrg l.toArray 0 n (by omega) (by omega)
  have hz2 : (insertionSort lessE l.toArray 0 n).size = n := by rw [hm.1.1, hz]
  refine ⟨rfl, _, h1, h2, ?_⟩
  have := sorted_is (d := l.toArray) (d' := insertionSort lessE l.toArray 0 n) (by rw [hz2]; exact hm.2.1) hm.2.2
  simpa using this
end Go.Proofs.Ytgfomfioagblfaa

namespace Go.Proofs.Ytgfomfioagblfaa
open Go.RowKit
set_option linter.unusedVariables false
set_option linter.unusedSimpArgs false
set_option maxRecDepth 20000

theorem takeE_ok_n (A : Option Addr) (c n m : Nat) (b : List (BitVec 8)) (W : World) (hx : Sl 1 W A n c (bytesV b)) (hmc : n ≤ c) (hm : n ≤ 1000000) (e : EvP) (r2 : List (BitVec 8)) (h : takeE b = some (e, r2)) (hr : r2.length = m) :
    Calls Try.prog 8 #[.slice A n c] W fun e0 w' => ∃ A' c', e0 = .returned (.tuple #[.agg (evC e), .slice A' m c', .int .i64 0]) ∧ BRow w' W.heap.size A' c' r2 ∧ Below W.heap.size W w' := by
  obtain rfl : b.length = n := hx.blen
  subst hr
  exact takeE_ok_c A c b W hx hmc hm e r2 h
theorem takeE_bad_n (A : Option Addr) (c n : Nat) (b : List (BitVec 8)) (W : World) (hx : Sl 1 W A n c (bytesV b)) (hmc : n ≤ c) (hm : n ≤ 1000000) (h : takeE b = none) :
    Calls Try.prog 8 #[.slice A n c] W fun e w' => e = .returned (.tuple #[.agg (evC EvP.none), .slice none 0 0, .int .i64 80]) ∧ Below W.heap.size W w' := by
  obtain rfl : b.length = n := hx.blen
  exact takeE_bad_c A c b W hx hmc hm h
theorem Fair.in {e : EvP} (h : e.Fair) : e.In := by
  have h1 := h.id; have h2 := h.wk; have h3 := h.tm; have h4 := h.kd; have h5 := h.fr; have h6 := h.to; have h7 := h.el; have h8 := h.un; have h9 := h.cl; have h10 := h.ge; have h11 := h.cd
  constructor <;> omega
theorem putE_ok_n (A0 : Option Addr) (m0 c0 n : Nat) (xs : List (BitVec 8)) (e : EvP) (W : World) (hf : e.Fair) (hx : Sl 1 W A0 m0 c0 (bytesV xs)) (hm : m0 ≤ 100000000000) (hn : m0 + e.bytes.length = n) :
    Calls Try.prog 6 #[.slice A0 m0 c0, .agg (evC e)] W fun r w' => ∃ A' c', r = .returned (.tuple #[.slice A' n c', .int .i64 0]) ∧ BRow w' W.heap.size A' c' (xs ++ e.bytes) ∧ Below W.heap.size W w' := by
  subst hn
  exact putE_ok A0 m0 c0 xs e W hf (Fair.in hf) hx hm
def aw1 : EvP := ⟨5, 0, 300, 2, 0, 0, 0, 0, 0, 0, 0⟩
def aw2 : EvP := ⟨6, 0, 300, 0, 0, 0, 0, 0, 0, 0, 0⟩
def aw3 : EvP := ⟨9, 0, 1, 0, 0, 0, 0, 0, 0, 0, 0⟩
def aw4 : EvP := ⟨0, 0, 0, 1, 0, 0, 0, 0, 0, 0, 1⟩
def aw5 : EvP := ⟨0, 0, 0, 3, 0, 0, 0, 0, 0, 0, 0⟩
theorem aw1_fair : aw1.Fair := by decide
theorem aw4_fair : ¬ aw4.Fair := by decide
theorem aw_in {e : EvP} (h : e = aw2 ∨ e = aw4 ∨ e = aw5 ∨ e = aw1) : e.In := by
  rcases h with rfl | rfl | rfl | rfl <;> constructor <;> decide
def awB : List (BitVec 8) := [1#8, 5#8, 0#8, 2#8, 1#8, 44#8, 1#8, 2#8]
theorem aw1_bytes : aw1.bytes = awB := by decide +kernel
theorem aw_take8 : takeE (awB ++ [7#8]) = some (aw1, [7#8]) := by rw [← aw1_bytes]; exact takeE_back aw1_fair _
theorem aw_take0 : takeE [] = none := takeP_no (by rfl)
theorem aw_sort : sortE [aw1, aw2, aw3] = [aw3, aw1, aw2] := by decide +kernel
def awS (N : Nat) : Array Value := #[.int .i64 1, .slice none 0 0, .int .i64 0, .int .i64 0, .slice none 0 0, .slice none 0 0, .slice none 0 0, .int .i64 0, .int .i64 0, .int .i64 0, .int .i64 0, .int .i64 0, .int .i64 0, .int .i64 0, .int .i64 0, .int .i64 0, .int .i64 0, .int .i64 0, .slice (some ⟨N, 0, none⟩) 1 1, .int .i64 0, .int .i64 0, .int .i64 0, .slice none 0 0]
theorem awS_one (N : Nat) : (awS N).all (·.oneCell') = true := by simp [awS, Value.oneCell']
theorem awS_set (N : Nat) : SetS (awS N) 1 0 0 0 1 := ⟨rfl, awS_one N, rfl, ⟨_, _, rfl⟩, ⟨_, _, rfl⟩, ⟨_, _, rfl⟩, ⟨_, _, rfl⟩⟩
theorem aw_may : decide (aw1.May 1 0 0 0 1) = true := by decide
theorem aw_may2 : decide (aw5.May 1 0 0 0 1) = false := by decide
def zS : Array Value := #[.int .i64 0, .slice none 0 0, .int .i64 0, .int .i64 0, .slice none 0 0, .slice none 0 0, .slice none 0 0, .int .i64 0, .int .i64 0, .int .i64 0, .int .i64 0, .int .i64 0, .int .i64 0, .int .i64 0, .int .i64 0, .int .i64 0, .int .i64 0, .int .i64 0, .slice none 0 0, .int .i64 0, .int .i64 0, .int .i64 0, .slice none 0 0]
theorem wpList_load_s {ops : Array Oper} {rest : List Oper} {o : Oper} {a : Act} {w : World} {Q : Exit → Act → World → Prop} (hgd : Region.wanted o (yielded ops a.tmps) = true) (x : Operand) (ho : o.op = .load 30 x)
    (g : Nat) (hx : a.eval x = .pointer (some ⟨g, 0, none⟩)) (cs : Array Value) (hg : Has w g cs) (hs : cs.size = 23)
    (h : wpList Try.prog ops Q rest (a.put o.dst (.agg cs)) w) : wpList Try.prog ops Q (o :: rest) a w := by
  refine wpList_step fun K hK => ?_
  rw [if_pos hgd]
  obtain ⟨t, hg⟩ := hg
  exact wp_load_row _ x ho g hx t cs (0, 0) _ hg Try.underlying30 rfl (by rw [hs]; kernel_rfl) (hK _ _ h)
theorem wpList_laid_s {ops : Array Oper} {rest : List Oper} {o1 o : Oper} {a : Act} {w : World} {Q : Exit → Act → World → Prop} (cs : Array Value) (d : Tmp) (x y : Operand) (hg1 : o1.guard = none) (ho1 : o1.op = .alloc 30) (hd1 : o1.dst = some d)
    (hgd : o.guard = none) (ho : o.op = .store 30 x y) (hd : o.dst = none) (hx : (a.put o1.dst (.pointer (some ⟨w.heap.size, 0, none⟩))).eval x = .pointer (some ⟨w.heap.size, 0, none⟩)) (hy : (a.put o1.dst (.pointer (some ⟨w.heap.size, 0, none⟩))).eval y = .agg cs)
    (hs : cs.size = 23) (h1 : cs.all (·.oneCell') = true)
    (h : wpList Try.prog ops Q rest (a.put o1.dst (.pointer (some ⟨w.heap.size, 0, none⟩))) (w.alloc (.cells cs 30))) : wpList Try.prog ops Q (o1 :: o :: rest) a w := by
  rw [hd1] at hx hy h
  refine wpList_plain hg1 fun K hK => ?_
  unfold Oper.wp execOp
  simp only [ho1]
  go_simp
  refine hK _ _ ?_
  have hz := Has.new w 30 zS rfl
  obtain ⟨t, hz⟩ := hz
  refine wpList_store_row hgd _ x y ho w.heap.size cs hx hy t zS hz (by rw [hs]; kernel_rfl) (by rw [hs]; rfl) h1 ?_
  rw [hd]
  have e := World.setRow_alloc_new w zS cs 30
  unfold zS at e
  exact e ▸ h
set_option maxHeartbeats 2000000 in
theorem awake8 (w : World) : Calls Try.prog 4 #[] w fun e w' => e = .returned (.bool true) ∧ Below w.heap.size w w' := by
  go_enter Try.func4, Try.ntmps4
  go_wp2_with (first | (refine wpList_laid_e (evC aw1) 1 _ _ rfl rfl rfl rfl rfl rfl rfl rfl rfl (evC_one _) ?_) | (refine wpList_load_e (o := ⟨some 16, _, _, _, _, _⟩) (by rfl) _ rfl w.heap.size rfl (evC aw1) (Has.new w _ _ rfl) rfl ?_))
  refine (putE_ok_n none 0 0 8 [] aw1 _ aw1_fair Sl.nil_ (by omega) (by rw [aw1_bytes]; rfl)).mono ?_
  rintro e w1 ⟨A1, c1, rfl, r1, b1⟩
  rw [aw1_bytes, List.nil_append] at r1
  have H1 := Lib.hid ((Has.new w 33 (evC aw1) rfl).below b1)
  have hb1 := Lib.hid (bel_on (bel_alloc (Below.refl w.heap.size w) _) b1)
  have hsz1 : (w.alloc (.cells (evC aw1) 33)).heap.size ≤ (w1.alloc (.cells #[v8 7#8] 5)).heap.size := by have := b1.size; simp at this ⊢; omega
  -- append(b, 7)
  obtain ⟨A2, c2, w2, hr2, hrow2, hbel2, hgr2, hl2⟩ := brow_append (r1.alloc (.cells #[v8 7#8] 5)) (ys := [7#8]) (sl_byte w1 5 7#8 rfl) (by decide) hsz1
  have hold2 := brow_append_old (r1.alloc (.cells #[v8 7#8] 5)) (ys := [7#8]) (sl_byte w1 5 7#8 rfl) (by decide) (by decide) hr2 hrow2
  have R2 : Hid ((Builtin.append_ #[34, 34] 34 #[.slice A1 8 c1, .slice (some ⟨w1.heap.size, 0, none⟩) 1 1]).run Try.prog (w1.alloc (.cells #[v8 7#8] 5)) = .ok (.slice A2 9 c2) w2) := hr2
  have b2 : Below (w.alloc (.cells (evC aw1) 33)).heap.size (w.alloc (.cells (evC aw1) 33)) w2 := hbel2 _ (Nat.le_refl _) (bel_alloc b1 _)
  have hsl2 := hrow2.slAt (n := 9) rfl
  have hcap2 := hrow2.cap_le (n := 9) rfl
  have B1 : Hid (Sl 1 w2 A1 8 c1 (bytesV awB)) := Lib.hid hold2
  have H1 := Lib.hid ((Has.new w 33 (evC aw1) rfl).below b2)
  have hb2 := Lib.hid (bel_on (bel_alloc (Below.refl w.heap.size w) _) b2)
  clear b1 b2 r1 hr2 hrow2 hbel2 hgr2 hl2 hold2 hsz1
  obtain ⟨g1, hg1⟩ : ∃ g1, w.heap.size = g1 := ⟨_, rfl⟩
  rw [hg1] at H1 ⊢
  clear hg1
  have HS2 := Lib.hid hsl2
  clear hsl2
  go_wp2_with (at_builtin; refine wpList_append_run (o := ⟨some 23, _, _, _, _, _⟩) R2.out rfl rfl rfl rfl ?_)
  clear R2
  refine (takeE_ok_n A2 c2 9 1 (awB ++ [7#8]) _ HS2.out hcap2 (by omega) aw1 [7#8] aw_take8 rfl).mono ?_
  rintro e w3 ⟨A3, c3, rfl, r3, b3⟩
  replace H1 := Lib.hid (H1.out.below b3)
  replace B1 := Lib.hid (B1.out.below b3)
  replace hb2 := Lib.hid (bel_on hb2.out b3)
  have B3 := Lib.hid (r3.slAt (n := 1) rfl)
  clear b3 r3 HS2 hcap2
  go_wp2_with (refine wpList_laid_e (evC aw1) 4 _ _ rfl rfl rfl rfl rfl rfl rfl rfl rfl (evC_one _) ?_)
  have H4 := Lib.hid (Has.new w3 33 (evC aw1) rfl)
  replace H1 := Lib.hid (H1.out.alloc (.cells (evC aw1) 33))
  replace B1 := Lib.hid (B1.out.alloc (.cells (evC aw1) 33))
  replace B3 := Lib.hid (B3.out.alloc (.cells (evC aw1) 33))
  replace hb2 := Lib.hid (bel_alloc hb2.out (.cells (evC aw1) 33))
  generalize w3.alloc (.cells (evC aw1) 33) = w4 at *
  generalize w3.heap.size = g4 at *
  refine (putE_bad none 0 0 aw4 w4 (aw_in (.inr (.inl rfl))) aw4_fair).mono ?_
  rintro e w5 ⟨rfl, b5⟩
  replace H1 := Lib.hid (H1.out.below b5)
  replace H4 := Lib.hid (H4.out.below b5)
  replace B1 := Lib.hid (B1.out.below b5)
  replace B3 := Lib.hid (B3.out.below b5)
  replace hb2 := Lib.hid (bel_on hb2.out b5)
  clear b5
  go_wp2_with fail
  refine (takeE_bad_n none 0 0 [] w5 Sl.nil_ (by omega) (by omega) aw_take0).mono ?_
  rintro e w6 ⟨rfl, b6⟩
  replace H1 := Lib.hid (H1.out.below b6)
  replace H4 := Lib.hid (H4.out.below b6)
  replace B1 := Lib.hid (B1.out.below b6)
  replace B3 := Lib.hid (B3.out.below b6)
  replace hb2 := Lib.hid (bel_on hb2.out b6)
  clear b6
  go_wp2_with (first | (refine wpList_laid_e (evC EvP.none) 9 _ _ rfl rfl rfl rfl rfl rfl rfl rfl rfl (evC_one _) ?_) | (refine wpList_load_e (o := ⟨some 38, _, _, _, _, _⟩) (by rfl) _ rfl g1 rfl #[.int .i64 5, .int .i64 0, .int .i64 300, .int .i64 2, .int .i64 0, .int .i64 0, .int .i64 0, .int .i64 0, .int .i64 0, .int .i64 0, .int .i64 0] (H1.out.alloc _) rfl ?_))
  replace H1 := Lib.hid (H1.out.alloc (.cells (evC EvP.none) 33))
  replace H4 := Lib.hid (H4.out.alloc (.cells (evC EvP.none) 33))
  replace B1 := Lib.hid (B1.out.alloc (.cells (evC EvP.none) 33))
  replace B3 := Lib.hid (B3.out.alloc (.cells (evC EvP.none) 33))
  replace hb2 := Lib.hid (bel_alloc hb2.out (.cells (evC EvP.none) 33))
  have h97 : (w6.alloc (.cells (evC EvP.none) 33)).heap.size = w6.heap.size + 1 := by simp
  generalize w6.alloc (.cells (evC EvP.none) 33) = w7 at *
  generalize w6.heap.size = g9 at *
  have hev : Evs (w7.alloc (.cells (ints .i64 ([aw1, aw2, aw3].map evLs).flatten).toArray 33)) (some ⟨g9 + 1, 0, none⟩) 3 3 [aw1, aw2, aw3] := by
    rw [← h97]
    refine ⟨⟨rfl, .inr ⟨_, rfl, fun j u hu => ?_⟩⟩, rfl⟩
    rw [by_add_none, Nat.zero_add, cell_of_row _ _ _ _ _ (0, 0) (heap_alloc_new w7 _)]
    simpa using hu
  have HEV := Lib.hid hev
  clear hev h97
  refine (sort_few _ 3 3 [aw1, aw2, aw3] _ HEV.out (by omega)).mono ?_
  rintro e w8 ⟨A8, c8, rfl, b8, he8⟩
  rw [aw_sort] at he8
  replace b8 := bel_on (bel_alloc (Below.refl w7.heap.size w7) _) b8
  replace H1 := Lib.hid (H1.out.below b8)
  replace H4 := Lib.hid (H4.out.below b8)
  replace B1 := Lib.hid (B1.out.below b8)
  replace B3 := Lib.hid (B3.out.below b8)
  replace hb2 := Lib.hid (bel_on hb2.out b8)
  obtain ⟨bb, off, rfl⟩ := he8.form (by omega)
  have k0 : w8.cell? ⟨bb, off, none⟩ = some (.int .i64 9) := he8.cell (i := 0) (j := 0) (by omega) (by omega)
  have k2 : w8.cell? ⟨bb, off + 22, none⟩ = some (.int .i64 6) := he8.cell (i := 2) (j := 0) (by omega) (by omega)
  have kb := cell_lt k0
  simp only at kb
  clear b8 he8 HEV
  go_upto_region 10 with (first | (refine wpList_laid_s (awS w8.heap.size) 13 _ _ rfl rfl rfl rfl rfl rfl rfl rfl rfl (awS_one _) ?_))
  change Code.wp _ _ _ _ ((w8.alloc (.cells #[.int .i64 1] 3)).alloc (.cells (awS w8.heap.size) 30))
  replace H1 := Lib.hid ((H1.out.alloc (.cells #[.int .i64 1] 3)).alloc (.cells (awS w8.heap.size) 30))
  replace H4 := Lib.hid ((H4.out.alloc (.cells #[.int .i64 1] 3)).alloc (.cells (awS w8.heap.size) 30))
  replace B1 := Lib.hid ((B1.out.alloc (.cells #[.int .i64 1] 3)).alloc (.cells (awS w8.heap.size) 30))
  replace B3 := Lib.hid ((B3.out.alloc (.cells #[.int .i64 1] 3)).alloc (.cells (awS w8.heap.size) 30))
  replace hb2 := Lib.hid (bel_alloc (bel_alloc hb2.out (.cells #[.int .i64 1] 3)) (.cells (awS w8.heap.size) 30))
  have HS : Hid (Has ((w8.alloc (.cells #[.int .i64 1] 3)).alloc (.cells (awS w8.heap.size) 30)) (w8.heap.size + 1) (awS w8.heap.size)) := Lib.hid (Has.new _ _ _ (by simp))
  replace k0 := (World.cell?_alloc_lt (w8.alloc (.cells #[.int .i64 1] 3)) (.cells (awS w8.heap.size) 30) ⟨bb, off, none⟩ (by simp; omega)).trans ((World.cell?_alloc_lt w8 (.cells #[.int .i64 1] 3) ⟨bb, off, none⟩ (by simp; omega)).trans k0)
  replace k2 := (World.cell?_alloc_lt (w8.alloc (.cells #[.int .i64 1] 3)) (.cells (awS w8.heap.size) 30) ⟨bb, off + 22, none⟩ (by simp; omega)).trans ((World.cell?_alloc_lt w8 (.cells #[.int .i64 1] 3) ⟨bb, off + 22, none⟩ (by simp; omega)).trans k2)
  generalize (w8.alloc (.cells #[.int .i64 1] 3)).alloc (.cells (awS w8.heap.size) 30) = w9 at *
  have q1 : (convert 34 9 (.slice A1 8 c1)).run Try.prog w9 = .ok (.string ⟨#[1, 5, 0, 2, 1, 44, 1, 2]⟩) w9 := conv_sl B1.out
  have q3 : (convert 34 9 (.slice A3 1 c3)).run Try.prog w9 = .ok (.string ⟨#[7]⟩) w9 := conv_sl B3.out
  have hq : ∀ w, (binOp .eql 33 (.agg (evC aw1)) (.agg (evC aw1))).run Try.prog w = .ok (.bool true) w := fun w => by
    have := run_ev_eql aw1 aw1 w
    rw [decide_eq_true rfl] at this
    exact this
  refine wp_region_lit ?_
  refine wpList_step (fun K hK => ?_)
  go_simp
  refine hK _ _ ?_
  clear hK K
  (try simp only [Act.put, List.setIfInBounds_toArray, List.set_cons_zero, List.set_cons_succ])
  refine wpList_step (fun K hK => ?_)
  go_simp
  refine hK _ _ ?_
  clear hK K
  (try simp only [Act.put, List.setIfInBounds_toArray, List.set_cons_zero, List.set_cons_succ])
  refine wpList_step (fun K hK => ?_)
  go_simp
  refine hK _ _ ?_
  clear hK K
  (try simp only [Act.put, List.setIfInBounds_toArray, List.set_cons_zero, List.set_cons_succ])
  refine wpList_step (fun K hK => ?_)
  go_simp
  refine hK _ _ ?_
  clear hK K
  (try simp only [Act.put, List.setIfInBounds_toArray, List.set_cons_zero, List.set_cons_succ])
  refine wpList_step (fun K hK => ?_)
  go_simp
  refine hK _ _ ?_
  clear hK K
  (try simp only [Act.put, List.setIfInBounds_toArray, List.set_cons_zero, List.set_cons_succ])
  refine wpList_step (fun K hK => ?_)
  go_simp
  refine hK _ _ ?_
  clear hK K
  (try simp only [Act.put, List.setIfInBounds_toArray, List.set_cons_zero, List.set_cons_succ])
  refine wpList_step (fun K hK => ?_)
  go_simp
  refine hK _ _ ?_
  clear hK K
  (try simp only [Act.put, List.setIfInBounds_toArray, List.set_cons_zero, List.set_cons_succ])
  refine wpList_step (fun K hK => ?_)
  go_simp
  refine hK _ _ ?_
  clear hK K
  (try simp only [Act.put, List.setIfInBounds_toArray, List.set_cons_zero, List.set_cons_succ])
  refine wpList_load_e (by rfl) _ rfl g4 rfl (evC aw1) H4.out rfl ?_
  (try simp only [Act.put, List.setIfInBounds_toArray, List.set_cons_zero, List.set_cons_succ])
  refine wpList_load_e (by rfl) _ rfl g1 rfl (evC aw1) H1.out rfl ?_
  (try simp only [Act.put, List.setIfInBounds_toArray, List.set_cons_zero, List.set_cons_succ])
  refine wpList_step (fun K hK => ?_)
  go_simp
  refine hK _ _ ?_
  clear hK K
  (try simp only [Act.put, List.setIfInBounds_toArray, List.set_cons_zero, List.set_cons_succ])
  refine wpList_step (fun K hK => ?_)
  go_simp
  refine hK _ _ ?_
  clear hK K
  (try simp only [Act.put, List.setIfInBounds_toArray, List.set_cons_zero, List.set_cons_succ])
  refine wpList_step (fun K hK => ?_)
  go_simp
  refine hK _ _ ?_
  clear hK K
  (try simp only [Act.put, List.setIfInBounds_toArray, List.set_cons_zero, List.set_cons_succ])
  refine wpList_step (fun K hK => ?_)
  go_simp
  refine hK _ _ ?_
  clear hK K
  (try simp only [Act.put, List.setIfInBounds_toArray, List.set_cons_zero, List.set_cons_succ])
  refine wpList_step (fun K hK => ?_)
  go_simp
  refine hK _ _ ?_
  clear hK K
  (try simp only [Act.put, List.setIfInBounds_toArray, List.set_cons_zero, List.set_cons_succ])
  refine wpList_step (fun K hK => ?_)
  go_simp
  refine hK _ _ ?_
  clear hK K
  (try simp only [Act.put, List.setIfInBounds_toArray, List.set_cons_zero, List.set_cons_succ])
  refine wpList_step (fun K hK => ?_)
  go_simp
  refine hK _ _ ?_
  clear hK K
  (try simp only [Act.put, List.setIfInBounds_toArray, List.set_cons_zero, List.set_cons_succ])
  refine wpList_step (fun K hK => ?_)
  go_simp
  refine hK _ _ ?_
  clear hK K
  (try simp only [Act.put, List.setIfInBounds_toArray, List.set_cons_zero, List.set_cons_succ])
  refine wpList_step (fun K hK => ?_)
  go_simp
  refine hK _ _ ?_
  clear hK K
  (try simp only [Act.put, List.setIfInBounds_toArray, List.set_cons_zero, List.set_cons_succ])
  refine wpList_step (fun K hK => ?_)
  go_simp
  refine hK _ _ ?_
  clear hK K
  (try simp only [Act.put, List.setIfInBounds_toArray, List.set_cons_zero, List.set_cons_succ])
  refine wpList_step (fun K hK => ?_)
  go_simp
  refine hK _ _ ?_
  clear hK K
  (try simp only [Act.put, List.setIfInBounds_toArray, List.set_cons_zero, List.set_cons_succ])
  refine wpList_step (fun K hK => ?_)
  go_simp
  refine hK _ _ ?_
  clear hK K
  (try simp only [Act.put, List.setIfInBounds_toArray, List.set_cons_zero, List.set_cons_succ])
  refine wpList_step (fun K hK => ?_)
  go_simp
  refine hK _ _ ?_
  clear hK K
  (try simp only [Act.put, List.setIfInBounds_toArray, List.set_cons_zero, List.set_cons_succ])
  refine wpList_step (fun K hK => ?_)
  go_simp
  refine hK _ _ ?_
  clear hK K
  (try simp only [Act.put, List.setIfInBounds_toArray, List.set_cons_zero, List.set_cons_succ])
  refine wpList_step (fun K hK => ?_)
  go_simp
  refine hK _ _ ?_
  clear hK K
  (try simp only [Act.put, List.setIfInBounds_toArray, List.set_cons_zero, List.set_cons_succ])
  refine wpList_step (fun K hK => ?_)
  go_simp
  refine hK _ _ ?_
  clear hK K
  (try simp only [Act.put, List.setIfInBounds_toArray, List.set_cons_zero, List.set_cons_succ])
  refine wpList_step (fun K hK => ?_)
  go_simp
  refine hK _ _ ?_
  clear hK K
  (try simp only [Act.put, List.setIfInBounds_toArray, List.set_cons_zero, List.set_cons_succ])
  refine wpList_step (fun K hK => ?_)
  go_simp
  refine hK _ _ ?_
  clear hK K
  (try simp only [Act.put, List.setIfInBounds_toArray, List.set_cons_zero, List.set_cons_succ])
  refine wpList_step (fun K hK => ?_)
  go_simp
  refine hK _ _ ?_
  clear hK K
  (try simp only [Act.put, List.setIfInBounds_toArray, List.set_cons_zero, List.set_cons_succ])
  refine wpList_step (fun K hK => ?_)
  go_simp
  refine hK _ _ ?_
  clear hK K
  (try simp only [Act.put, List.setIfInBounds_toArray, List.set_cons_zero, List.set_cons_succ])
  refine wpList_step (fun K hK => ?_)
  go_simp
  refine hK _ _ ?_
  clear hK K
  (try simp only [Act.put, List.setIfInBounds_toArray, List.set_cons_zero, List.set_cons_succ])
  refine wpList_step (fun K hK => ?_)
  go_simp
  refine hK _ _ ?_
  clear hK K
  (try simp only [Act.put, List.setIfInBounds_toArray, List.set_cons_zero, List.set_cons_succ])
  refine wpList_step (fun K hK => ?_)
  go_simp
  refine hK _ _ ?_
  clear hK K
  (try simp only [Act.put, List.setIfInBounds_toArray, List.set_cons_zero, List.set_cons_succ])
  refine wpList_step (fun K hK => ?_)
  go_simp
  refine hK _ _ ?_
  clear hK K
  (try simp only [Act.put, List.setIfInBounds_toArray, List.set_cons_zero, List.set_cons_succ])
  refine wpList_step (fun K hK => ?_)
  go_simp
  refine hK _ _ ?_
  clear hK K
  (try simp only [Act.put, List.setIfInBounds_toArray, List.set_cons_zero, List.set_cons_succ])
  refine wpList_step (fun K hK => ?_)
  go_simp
  refine hK _ _ ?_
  clear hK K
  (try simp only [Act.put, List.setIfInBounds_toArray, List.set_cons_zero, List.set_cons_succ])
  refine wpList_step (fun K hK => ?_)
  go_simp
  refine hK _ _ ?_
  clear hK K
  (try simp only [Act.put, List.setIfInBounds_toArray, List.set_cons_zero, List.set_cons_succ])
  refine wpList_step (fun K hK => ?_)
  go_simp
  refine hK _ _ ?_
  clear hK K
  (try simp only [Act.put, List.setIfInBounds_toArray, List.set_cons_zero, List.set_cons_succ])
  refine wpList_step (fun K hK => ?_)
  go_simp
  refine hK _ _ ?_
  clear hK K
  (try simp only [Act.put, List.setIfInBounds_toArray, List.set_cons_zero, List.set_cons_succ])
  refine wpList_step (fun K hK => ?_)
  go_simp
  refine hK _ _ ?_
  clear hK K
  (try simp only [Act.put, List.setIfInBounds_toArray, List.set_cons_zero, List.set_cons_succ])
  refine wpList_step (fun K hK => ?_)
  go_simp
  refine hK _ _ ?_
  clear hK K
  (try simp only [Act.put, List.setIfInBounds_toArray, List.set_cons_zero, List.set_cons_succ])
  refine wpList_step (fun K hK => ?_)
  go_simp
  refine hK _ _ ?_
  clear hK K
  (try simp only [Act.put, List.setIfInBounds_toArray, List.set_cons_zero, List.set_cons_succ])
  refine wpList_step (fun K hK => ?_)
  go_simp
  refine hK _ _ ?_
  clear hK K
  (try simp only [Act.put, List.setIfInBounds_toArray, List.set_cons_zero, List.set_cons_succ])
  refine wpList_step (fun K hK => ?_)
  go_simp
  refine hK _ _ ?_
  clear hK K
  (try simp only [Act.put, List.setIfInBounds_toArray, List.set_cons_zero, List.set_cons_succ])
  refine wpList_load_s (by rfl) _ rfl (w8.heap.size + 1) rfl (awS w8.heap.size) HS.out rfl ?_
  (try simp only [Act.put, List.setIfInBounds_toArray, List.set_cons_zero, List.set_cons_succ])
  refine wpList_load_e (by rfl) _ rfl g1 rfl (evC aw1) H1.out rfl ?_
  (try simp only [Act.put, List.setIfInBounds_toArray, List.set_cons_zero, List.set_cons_succ])
  refine wpList_step (fun K hK => ?_)
  go_simp
  go_at_call 10
  refine (echeck_any (awS w8.heap.size) 1 0 0 0 1 (awS_set _) aw1 (aw_in (.inr (.inr (.inr rfl)))) w9 true aw_may).mono ?_
  rintro e w10 ⟨rfl, b10⟩
  replace HS := Lib.hid (HS.out.below b10)
  have hbF := bel_on hb2.out b10
  clear b10 q1 q3 hq k0 k2 kb
  refine hK _ _ ?_
  clear hK K
  (try simp only [Act.put, List.setIfInBounds_toArray, List.set_cons_zero, List.set_cons_succ])
  refine wpList_step (fun K hK => ?_)
  go_simp
  refine hK _ _ ?_
  clear hK K
  (try simp only [Act.put, List.setIfInBounds_toArray, List.set_cons_zero, List.set_cons_succ])
  refine wpList_step (fun K hK => ?_)
  go_simp
  refine hK _ _ ?_
  clear hK K
  (try simp only [Act.put, List.setIfInBounds_toArray, List.set_cons_zero, List.set_cons_succ])
  refine wpList_load_s (by rfl) _ rfl (w8.heap.size + 1) rfl (awS w8.heap.size) HS.out rfl ?_
  (try simp only [Act.put, List.setIfInBounds_toArray, List.set_cons_zero, List.set_cons_succ])
  refine wpList_step (fun K hK => ?_)
  go_simp
  refine hK _ _ ?_
  clear hK K
  (try simp only [Act.put, List.setIfInBounds_toArray, List.set_cons_zero, List.set_cons_succ])
  refine wpList_step (fun K hK => ?_)
  go_simp
  go_at_call 10
  refine (echeck_any (awS w8.heap.size) 1 0 0 0 1 (awS_set _) aw5 (aw_in (.inr (.inr (.inl rfl)))) w10 false aw_may2).mono ?_
  rintro e w11 ⟨rfl, b11⟩
  refine hK _ _ ?_
  clear hK K
  go_wp2
  go_ret
  exact ⟨rfl, bel_on hbF b11⟩
end Go.Proofs.Ytgfomfioagblfaa
