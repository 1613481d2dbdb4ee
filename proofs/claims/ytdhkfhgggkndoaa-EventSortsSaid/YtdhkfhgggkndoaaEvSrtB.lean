/-
  The library's insertion sort at events; event.Sort of fewer than twenty.
-/
import Derived.Test.YtdhkfhgggkndoaaEvSrt
import Derived.Shelf.SlSortCmp.KitK
namespace Go.Proofs.Ytdhkfhgggkndoaa
open Go.RowKit Go.Sort
set_option linter.unusedVariables false
set_option linter.unusedSimpArgs false
set_option maxRecDepth 20000

theorem lt_cfE : ltOf cfE = lessE := by funext x y; exact cf_less x y
theorem cmp_lays (blk off size : Nat) (w : World) : CmpLays Try.prog 58 #[] encE 11 cfE blk off size w :=
  fun m os dk _ x y => order_any x y _
theorem grown_sort {w : World} {g n : Nat} {d : Array EvP} {os : Array Obj} : w.grownBy (sortWorldK encE 11 w g 0 n d os) (some g) := by
  refine ⟨rfl, rfl, rfl, size_sortWorldK_c encE 11 w g 0 n d os, fun k hk hne => ?_⟩
  show (Sort.grow _ os).heap[k]? = _
  rw [Sort.heap_grow_old _ _ (by rw [show (Sort.putRowK encE 11 (Sort.ahead w n) g 0 d).heap.size = w.heap.size by simp [Sort.putRowK, Sort.putRow, Sort.mapBlock, Sort.ahead]]; omega)]
  show (w.heap.modify g _)[k]? = _
  rw [Array.getElem?_modify, if_neg (fun e => hne (by rw [e]))]
theorem order_enters : ∀ args w, (callFunc 58 args).run Try.prog w = .ok (.enter 58 args) w := enters_of Try.func58 (by kernel_rfl) rfl
def cmpV : Value := .func (.func 58) #[] #[]
theorem ins_any (g cap a b n : Nat) (d : Array EvP) (w : World) (hH : HoldE w g d) (hg : g < w.heap.size) (hn : d.size = n) (hab : a ≤ b) (hb : b ≤ n) (hsz : n ≤ 1000000) :
    Calls Try.prog 108 #[.slice (some ⟨g, 0, none⟩) n cap, .int .i64 a, .int .i64 b, cmpV] w fun e w' => e = .returned (.tuple #[]) ∧ HoldE w' g (Sort.insertionSort lessE d a b) ∧ w.grownBy w' (some g) := by
  subst hn
  have hcon := AnyQ.insertionSortCmpFunc Try.insEv 11 Try.isAgg43 Try.sizeOf43 encE encE_len encE_one cfE 58 #[] g 0 cap a b d w order_enters (cmp_lays _ _ _ _) hH hg hab hb (by omega)
  change Calls Try.prog 108 _ _ _ at hcon
  refine hcon.mono ?_
  rintro e w' ⟨rfl, n, os, rfl⟩
  rw [lt_cfE]
  refine ⟨rfl, ?_, grown_sort⟩
  exact holdsK_sortWorldK_c encE 11 w g 0 d _ n os hH hg (stab_outer a b _ (a + 1) d rfl hb).2
theorem ins_none_e (p : Option Addr) (cap : Nat) (fv : Value) (w : World) :
    Calls Try.prog 108 #[.slice p 0 cap, .int .i64 0, .int .i64 0, fv] w fun e w' => e = .returned (.tuple #[]) ∧ w = w' := by
  go_enter Try.func108, Try.ntmps108
  go_wp2_with fail
  refine wp_loop_rounds 1 ?_
  rw [rounds_succ]
  go_wp2
  go_end0
  exact ⟨rfl, rfl⟩
/-- 'stableCmpFunc' of fewer than twenty, whatever the insertion sort leaves. -/
theorem stable_few (p : Option Addr) (n cap : Nat) (w : World) (h20 : n < 20) (F : World → Prop)
    (H : Calls Try.prog 108 #[.slice p n cap, .int .i64 (0 : Nat), .int .i64 n, cmpV] w fun e w' => e = .returned (.tuple #[]) ∧ F w') :
    Calls Try.prog 93 #[.slice p n cap, .int .i64 n, cmpV] w fun e w' => e = .returned (.tuple #[]) ∧ F w' := by
  have h1 : ¬ (20 : Int) ≤ (n : Int) := by omega
  have h2 : ¬ (20 : Int) < (n : Int) := by omega
  have h3 : (n : Int) < 20 := by omega
  have HH := Lib.hid H
  clear H
  generalize cmpV = cv at *
  go_enter Try.func93, Try.ntmps93
  go_wp2_with fail
  refine wp_loop_rounds 1 ?_
  rw [rounds_succ]
  go_wp2_with fail
  refine HH.out.mono ?_
  rintro e w1 ⟨rfl, hF⟩
  go_wp2_with fail
  refine wp_loop_rounds 1 ?_
  rw [rounds_succ]
  go_wp2
  go_end0
  exact ⟨rfl, hF⟩
theorem sortstable_of (p : Option Addr) (n cap : Nat) (w : World) (hn : n ≤ 1000000) (F : World → Prop)
    (H : Calls Try.prog 93 #[.slice p n cap, .int .i64 n, cmpV] w fun e w' => e = .returned (.tuple #[]) ∧ F w') :
    Calls Try.prog 60 #[.slice p n cap, cmpV] w fun e w' => e = .returned (.tuple #[]) ∧ F w' := by
  have HH := Lib.hid H
  clear H
  generalize cmpV = cv at *
  go_enter Try.func60, Try.ntmps60
  go_wp2_with fail
  refine HH.out.mono ?_
  rintro e w1 ⟨rfl, hF⟩
  go_wp2
  go_end0
  exact ⟨rfl, hF⟩
/-- What a stable sort of a whole row leaves. -/
def Sorted (W : World) (A : Option Addr) (n c : Nat) (l : List EvP) (w : World) : Prop := Below W.heap.size W w ∧ Evs w A n c (sortE l)
/-- event.Sort, by what the library's sort makes of the copy. -/
theorem sort_of (A : Option Addr) (n c : Nat) (l : List EvP) (W : World) (h : Evs W A n c l) (hm : n ≤ 1000000)
    (H : ∀ (g c' : Nat) (w : World), 0 < n → HoldE w g l.toArray → g < w.heap.size → Calls Try.prog 93 #[.slice (some ⟨g, 0, none⟩) n c', .int .i64 n, cmpV] w fun e w' => e = .returned (.tuple #[]) ∧ ∃ d' : Array EvP, HoldE w' g d' ∧ w.grownBy w' (some g) ∧ d'.toList = sortE l) :
    Calls Try.prog 26 #[.slice A n c] W fun e w' => ∃ A' c', e = .returned (.slice A' n c') ∧ Below W.heap.size W w' ∧ Evs w' A' n c' (sortE l) := by
  have HC := Lib.hid (evclone_any A n c l W h hm)
  have hln := h.2
  have HLN := Lib.hid hln
  have HH := Lib.hid H
  clear h hln H
  go_enter Try.func26, Try.ntmps26
  go_wp2_with fail
  refine HC.out.mono ?_
  rintro e w1 ⟨A', c', rfl, hb1, hg1, hz1⟩
  have hS : Calls Try.prog 60 #[.slice A' n c', cmpV] w1 fun e w' => e = .returned (.tuple #[]) ∧ (Below W.heap.size W w' ∧ Evs w' A' n c' (sortE l)) := by
    rcases Nat.eq_zero_or_pos n with h0 | h0
    · subst h0
      refine sortstable_of A' 0 c' w1 hm _ (stable_few A' 0 c' w1 (by omega) _ ((ins_none_e A' c' cmpV w1).mono ?_))
      rintro e w2 ⟨rfl, rfl⟩
      have hl0 : l = [] := List.length_eq_zero_iff.1 HLN.out
      subst hl0
      exact ⟨rfl, hb1, hz1 (by simp)⟩
    · obtain ⟨g, rfl, hWg, hgl, hH⟩ := hg1 h0
      refine sortstable_of _ n c' w1 hm _ ((HH.out g c' w1 h0 hH hgl).mono ?_)
      rintro e w2 ⟨rfl, d', hd, hgr, hdl⟩
      refine ⟨rfl, hb1.grown hgr hb1.size (fun k hk => by injection hk with hk; omega), ?_⟩
      have := evs_of_holdE (c := c') hd
      have hz : d'.size = n := by
        have e1 := congrArg List.length hdl
        rw [(ev_sort_perm l).length_eq, HLN.out] at e1
        simpa using e1
      rw [hz, hdl] at this
      exact this
  have HS := Lib.hid hS
  clear hS hg1 hb1 HC HH
  generalize hcv : cmpV = cv at HS
  unfold cmpV at hcv
  subst hcv
  go_wp2_with fail
  refine HS.out.mono ?_
  rintro e w2 ⟨rfl, hF⟩
  go_wp2
  go_ret
  exact ⟨A', c', rfl, hF.1, hF.2⟩
theorem sort_few (A : Option Addr) (n c : Nat) (l : List EvP) (W : World) (h : Evs W A n c l) (h20 : n < 20) :
    Calls Try.prog 26 #[.slice A n c] W fun e w' => ∃ A' c', e = .returned (.slice A' n c') ∧ Below W.heap.size W w' ∧ Evs w' A' n c' (sortE l) := by
  refine sort_of A n c l W h (by omega) (fun g c' w h0 hH hgl => stable_few _ n c' w h20 _ ?_)
  have hz : l.toArray.size = n := by simpa using h.2
  refine (ins_any g c' 0 n n l.toArray w hH hgl hz (by omega) (Nat.le_refl _) (by omega)).mono ?_
  rintro e w' ⟨rfl, h1, h2⟩
  have hm := ins_mrg l.toArray 0 n (by omega) (by omega)
  have hz2 : (insertionSort lessE l.toArray 0 n).size = n := by rw [hm.1.1, hz]
  refine ⟨rfl, _, h1, h2, ?_⟩
  have := sorted_is (d := l.toArray) (d' := insertionSort lessE l.toArray 0 n) (by rw [hz2]; exact hm.2.1) hm.2.2
  simpa using this
end Go.Proofs.Ytdhkfhgggkndoaa
