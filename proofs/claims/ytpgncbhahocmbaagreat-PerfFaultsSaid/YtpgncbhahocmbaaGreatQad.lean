/-
  The library's insertion sort at events; event.Sort of fewer than twenty.
  The library's exchanges of parts, at events: swapRangeCmpFunc, rotateCmpFunc.
  A map from numbers that the call has made: what it tells of a number, whatever order it was filled in.
  What a call may change: blocks that are kept, and blocks that may change. Over any program.
  A session found from its first event on; its parts one by one; how many there are. No program here.
  An argument of type api.Setup, opened: its cells, its lists.
-/
import Derived.Test.YtpgncbhahocmbaaGreatQac
import Derived.Shelf.SlSortCmp.KitK
import Derived.Sort.WalkB2
import Derived.Sort.WalkB12
import Derived.Deep.LoopGhost
import Derived.Lib.Hide
import Derived.Test.YtpgncbhahocmbaaGreatProg
import Derived.Test.YtpgncbhahocmbaaGreatQaa
import Derived.Maps.OwnSet
import Derived.WalkKit
import Derived.KernelRfl
import Derived.Test.YtpgncbhahocmbaaGreatQab
namespace Go.Proofs.YtpgncbhahocmbaaGreat
open Go.RowKit Go.Sort
set_option linter.unusedVariables false
set_option linter.unusedSimpArgs false
set_option maxRecDepth 20000

theorem lt_cfE : ltOf cfE = lessE := by funext x y; exact cf_less x y
theorem cmp_lays (blk off size : Nat) (w : World) : CmpLays Tryz.prog 109 #[] encE 11 cfE blk off size w :=
  fun m os dk _ x y => order_any x y _
theorem grown_sort {w : World} {g n : Nat} {d : Array EvP} {os : Array Obj} : w.grownBy (sortWorldK encE 11 w g 0 n d os) (some g) := by
  refine ⟨rfl, rfl, rfl, size_sortWorldK_c encE 11 w g 0 n d os, fun k hk hne => ?_⟩
  show (Sort.grow _ os).heap[k]? = _
  rw [Sort.heap_grow_old _ _ (by rw [show (Sort.putRowK encE 11 (Sort.ahead w n) g 0 d).heap.size = w.heap.size by simp [Sort.putRowK, Sort.putRow, Sort.mapBlock, Sort.ahead]]; omega)]
  show (w.heap.modify g _)[k]? = _
  rw [Array.getElem?_modify, if_neg (fun e => hne (by rw [e]))]
theorem order_enters : ∀ args w, (callFunc 109 args).run Tryz.prog w = .ok (.enter 109 args) w := enters_of Tryz.func109 (by kernel_rfl) rfl
def cmpV : Value := .func (.func 109) #[] #[]
theorem ins_any (g cap a b n : Nat) (d : Array EvP) (w : World) (hH : HoldE w g d) (hg : g < w.heap.size) (hn : d.size = n) (hab : a ≤ b) (hb : b ≤ n) (hsz : n ≤ 1000000) :
    Calls Tryz.prog 155 #[.slice (some ⟨g, 0, none⟩) n cap, .int .i64 a, .int .i64 b, cmpV] w fun e w' => e = .returned (.tuple #[]) ∧ HoldE w' g (Sort.insertionSort lessE d a b) ∧ w.grownBy w' (some g) := by
  subst hn
  have hcon := AnyQ.insertionSortCmpFunc Tryz.insEv 11 Tryz.isAgg43 Tryz.sizeOf43 encE encE_len encE_one cfE 109 #[] g 0 cap a b d w order_enters (cmp_lays _ _ _ _) hH hg hab hb (by omega)
  change Calls Tryz.prog 155 _ _ _ at hcon
  refine hcon.mono ?_
  rintro e w' ⟨rfl, n, os, rfl⟩
  rw [lt_cfE]
  refine ⟨rfl, ?_, grown_sort⟩
  exact holdsK_sortWorldK_c encE 11 w g 0 d _ n os hH hg (stab_outer a b _ (a + 1) d rfl hb).2
theorem ins_none_e (p : Option Addr) (cap : Nat) (fv : Value) (w : World) :
    Calls Tryz.prog 155 #[.slice p 0 cap, .int .i64 0, .int .i64 0, fv] w fun e w' => e = .returned (.tuple #[]) ∧ w = w' := by
  go_enter Tryz.func155, Tryz.ntmps155
  go_wp2_with fail
  refine wp_loop_rounds 1 ?_
  rw [rounds_succ]
  go_wp2
  go_end0
  exact ⟨rfl, rfl⟩
/-- 'stableCmpFunc' of fewer than twenty, whatever the insertion sort leaves. -/
theorem stable_few (p : Option Addr) (n cap : Nat) (w : World) (h20 : n < 20) (F : World → Prop)
    (H : Calls Tryz.prog 155 #[.slice p n cap, .int .i64 (0 : Nat), .int .i64 n, cmpV] w fun e w' => e = .returned (.tuple #[]) ∧ F w') :
    Calls Tryz.prog 139 #[.slice p n cap, .int .i64 n, cmpV] w fun e w' => e = .returned (.tuple #[]) ∧ F w' := by
  have h1 : ¬ (20 : Int) ≤ (n : Int) := by omega
  have h2 : ¬ (20 : Int) < (n : Int) := by omega
  have h3 : (n : Int) < 20 := by omega
  have HH := Lib.hid H
  clear H
  generalize cmpV = cv at *
  go_enter Tryz.func139, Tryz.ntmps139
  go_wp2_with fail
  refine wp_loop_rounds 1 ?_
  rw [rounds_succ]
  go_wp2_with fail
  refine HH.out.mono ?_
  rintro e w1 ⟨rfl, hF⟩
  go_wp2_with fail
  refine wp_loop_rounds 1 ?_
  rw [rounds_succ]
  go_wp2
  go_end0
  exact ⟨rfl, hF⟩
theorem sortstable_of (p : Option Addr) (n cap : Nat) (w : World) (hn : n ≤ 1000000) (F : World → Prop)
    (H : Calls Tryz.prog 139 #[.slice p n cap, .int .i64 n, cmpV] w fun e w' => e = .returned (.tuple #[]) ∧ F w') :
    Calls Tryz.prog 108 #[.slice p n cap, cmpV] w fun e w' => e = .returned (.tuple #[]) ∧ F w' := by
  have HH := Lib.hid H
  clear H
  generalize cmpV = cv at *
  go_enter Tryz.func108, Tryz.ntmps108
  go_wp2_with fail
  refine HH.out.mono ?_
  rintro e w1 ⟨rfl, hF⟩
  go_wp2
  go_end0
  exact ⟨rfl, hF⟩
/-- event.Sort, by what the library's sort makes of the copy. -/
theorem sort_of (A : Option Addr) (n c : Nat) (l : List EvP) (W : World) (h : Evs W A n c l) (hm : n ≤ 1000000)
    (H : ∀ (g c' : Nat) (w : World), 0 < n → HoldE w g l.toArray → g < w.heap.size → Calls Tryz.prog 139 #[.slice (some ⟨g, 0, none⟩) n c', .int .i64 n, cmpV] w fun e w' => e = .returned (.tuple #[]) ∧ ∃ d' : Array EvP, HoldE w' g d' ∧ w.grownBy w' (some g) ∧ d'.toList = sortE l) :
    Calls Tryz.prog 66 #[.slice A n c] W fun e w' => ∃ A' c', e = .returned (.slice A' n c') ∧ Below W.heap.size W w' ∧ Evs w' A' n c' (sortE l) := by
  have HC := Lib.hid (evclone_any A n c l W h hm)
  have hln := h.2
  have HLN := Lib.hid hln
  have HH := Lib.hid H
  clear h hln H
  go_enter Tryz.func66, Tryz.ntmps66
  go_wp2_with fail
  refine HC.out.mono ?_
  rintro e w1 ⟨A', c', rfl, hb1, hg1, hz1⟩
  have hS : Calls Tryz.prog 108 #[.slice A' n c', cmpV] w1 fun e w' => e = .returned (.tuple #[]) ∧ (Below W.heap.size W w' ∧ Evs w' A' n c' (sortE l)) := by
    rcases Nat.eq_zero_or_pos n with h0 | h0
    · subst h0
      refine sortstable_of A' 0 c' w1 hm _ (stable_few A' 0 c' w1 (by omega) _ ((ins_none_e A' c' cmpV w1).mono ?_))
      rintro e w2 ⟨rfl, rfl⟩
      have hl0 : l = [] := List.length_eq_zero_iff.1 HLN.out
      subst hl0
      exact ⟨rfl, hb1, hz1 (by simp)⟩
    · obtain ⟨g, rfl, hWg, hgl, hH⟩ := hg1 h0
      refine sortstable_of _ n c' w1 hm _ ((HH.out g c' w1 h0 hH hgl).mono ?_)
      rintro e w2 ⟨rfl, d', hd, hgr, hdl⟩
      refine ⟨rfl, hb1.grown hgr hb1.size (fun k hk => by injection hk with hk; omega), ?_⟩
      have := evs_of_holdE (c := c') hd
      have hz : d'.size = n := by
        have e1 := congrArg List.length hdl
        rw [(ev_sort_perm l).length_eq, HLN.out] at e1
        simpa using e1
      rw [hz, hdl] at this
      exact this
  have HS := Lib.hid hS
  clear hS hg1 hb1 HC HH
  generalize hcv : cmpV = cv at HS
  unfold cmpV at hcv
  subst hcv
  go_wp2_with fail
  refine HS.out.mono ?_
  rintro e w2 ⟨rfl, hF⟩
  go_wp2
  go_ret
  exact ⟨A', c', rfl, hF.1, hF.2⟩
theorem sort_few (A : Option Addr) (n c : Nat) (l : List EvP) (W : World) (h : Evs W A n c l) (h20 : n < 20) :
    Calls Tryz.prog 66 #[.slice A n c] W fun e w' => ∃ A' c', e = .returned (.slice A' n c') ∧ Below W.heap.size W w' ∧ Evs w' A' n c' (sortE l) := by
  refine sort_of A n c l W h (by omega) (fun g c' w h0 hH hgl => stable_few _ n c' w h20 _ ?_)
  have hz : l.toArray.size = n := by simpa using h.2
  refine (ins_any g c' 0 n n l.toArray w hH hgl hz (by omega) (Nat.le_refl _) (by omega)).mono ?_
  rintro e w' ⟨rfl, h1, h2⟩
  have hm := ins_mrg l.toArray 0 n (by omega) (by omega)
  have hz2 : (insertionSort lessE l.toArray 0 n).size = n := by rw [hm.1.1, hz]
  refine ⟨rfl, _, h1, h2, ?_⟩
  have := sorted_is (d := l.toArray) (d' := insertionSort lessE l.toArray 0 n) (by rw [hz2]; exact hm.2.1) hm.2.2
  simpa using this
end Go.Proofs.YtpgncbhahocmbaaGreat

namespace Go.Proofs.YtpgncbhahocmbaaGreat
open Go.RowKit Go.Sort
set_option linter.unusedVariables false
set_option linter.unusedSimpArgs false
set_option maxRecDepth 1000000

theorem swk_size {w0 w : World} {g : Nat} {d : Array EvP} {l : List EvP} (h : d.toList = l) : d.size = l.length := by rw [← h]; simp
set_option maxHeartbeats 4000000 in
theorem swaprange_any (k : Nat) (hk : k = 11) (g cap a b n N : Nat) (P X Y Z T : List EvP) (d0 d : Array EvP) (w0 w : World) (R : RowK encE k w0 g 0 d0) (hs : d0.size = N) (hd : d.toList = P ++ (X ++ (Y ++ (Z ++ T)))) (hP : P.length = a) (hX : X.length = n) (hb : a + n + Y.length = b) (hZ : Z.length = n)
    (hN : d.size = N) (hsz : N ≤ 1000000) (S : SWK encE k w0 g 0 d w) :
    Calls Tryz.prog 179 #[.slice (some ⟨g, 0, none⟩) N cap, .int .i64 a, .int .i64 b, .int .i64 n, cmpV] w fun e w' => e = .returned (.tuple #[]) ∧ ∃ d' : Array EvP, d'.toList = P ++ (Z ++ (Y ++ (X ++ T))) ∧ SWK encE k w0 g 0 d' w' := by
  have mixed : Tryz.prog.follows .mixedOrders = true := by kernel_rfl
  have aE := Tryz.isAgg43
  have zE : ∀ w, (Go.sizeOf 43).run Tryz.prog w = .ok k w := fun w => by rw [hk]; exact Tryz.sizeOf43 w
  have HK := Lib.hid hk
  have S0 := Lib.hid S
  have HD := Lib.hid hd
  have hN2 := hN
  rw [swk_size (w0 := w0) (w := w) (g := g) hd] at hN2
  simp only [List.length_append] at hN2
  clear S hd hk
  generalize cmpV = cv at *
  go_enter Tryz.func179, Tryz.ntmps179
  go_wp2
  go_loopg [10] n (fun kx s10 wr => ∃ (i : Nat) (X1 X2 Z1 Z2 : List EvP) (dk : Array EvP), s10 = .int .i64 i ∧ i + kx = n ∧ Hid (X = X1 ++ X2) ∧ Hid (Z = Z1 ++ Z2) ∧ X1.length = i ∧ Z1.length = i ∧ dk.size = N ∧ Hid (dk.toList = P ++ (Z1 ++ (X2 ++ (Y ++ (X1 ++ (Z2 ++ T)))))) ∧ Hid (SWK encE k w0 g 0 dk wr))
  case atStart => exact ⟨0, [], X, [], Z, d, rfl, by omega, rfl, rfl, rfl, rfl, hN, HD, S0⟩
  case round =>
    clear S0 HD
    obtain ⟨i, X1, X2, Z1, Z2, dk, rfl, hi, HX, HZ, hX1, hZ1, hdk, HD, S1⟩ := hrel
    have lX := congrArg List.length HX.out
    have lZ := congrArg List.length HZ.out
    rw [List.length_append] at lX lZ
    by_cases hlt : i < n
    · have hlt2 : (i : Int) < (n : Int) := by omega
      obtain ⟨x, X2', rfl⟩ := cut_head X2 (by omega)
      obtain ⟨z, Z2', rfl⟩ := cut_head Z2 (by omega)
      rw [List.length_cons] at lX lZ
      have hd2 : dk.toList = (P ++ Z1) ++ x :: ((X2' ++ (Y ++ X1)) ++ z :: (Z2' ++ T)) := by rw [HD.out]; simp
      obtain ⟨k1, -, p1, p2⟩ := swp_parts (p := a + i) (q := b + i) hd2 (by rw [List.length_append]; omega) (by simp only [List.length_append]; omega)
      have K1 := Lib.hid k1
      clear k1 hd2 HD
      have ea44 : ((a : Int) + (i : Int)).toNat = a + i := by omega
      have pa44 : (0 : Int) ≤ (a : Int) + (i : Int) := by omega
      have ba44 : (a : Int) + (i : Int) < (N : Int) := by omega
      have ra44 : IntKind.i64.wrap ((a : Int) + (i : Int)) = (a : Int) + (i : Int) := by rw [IntKind.wrap_i64]; omega
      have ec44 : ((b : Int) + (i : Int)).toNat = b + i := by omega
      have pc44 : (0 : Int) ≤ (b : Int) + (i : Int) := by omega
      have bc44 : (b : Int) + (i : Int) < (N : Int) := by omega
      have rc44 : IntKind.i64.wrap ((b : Int) + (i : Int)) = (b : Int) + (i : Int) := by rw [IntKind.wrap_i64]; omega
      go_wp2_with fail
      have S2 := Lib.hid (S1.out.swapped R (a + i) (b + i) (by omega) (by omega))
      have l44a := S1.out.ld1 R (by omega) Tryz.prog (a + i) (by omega)
      have l44b := S1.out.ld1 R (by omega) Tryz.prog (b + i) (by omega)
      have s44a := S1.out.st1 R (by omega) Tryz.prog (a + i) (by omega) dk[b + i]!
      have s44b := S1.out.st2 R (by omega) Tryz.prog (a + i) (b + i) (by omega) (by omega) dk[b + i]! dk[a + i]!
      have n44a : (encE dk[a + i]!).length = k := R.hk _
      have n44b : (encE dk[b + i]!).length = k := R.hk _
      generalize encE dk[a + i]! = cI44 at S2 l44a s44b n44a
      generalize encE dk[b + i]! = cJ44 at S2 l44b s44a s44b n44b
      clear S1
      simp only [Nat.zero_add] at S2 l44a l44b s44a s44b
      go_wp2_with fail
      go_big_region_o
      clear l44a l44b s44a s44b
      generalize (wr.drew.setCells g ((a + i) * k) cJ44).setCells g ((b + i) * k) cI44 = w2 at S2 ⊢
      have hsz2 : (swp dk (a + i) (b + i)).size = N := by rw [size_swp]; exact hdk
      go_wp2
      go_roundg (n - (i + 1))
      case measure => omega
      case rel => exact ⟨i + 1, X1 ++ [x], X2', Z1 ++ [z], Z2', _, by simp, by omega, Lib.hid (by rw [HX.out]; simp), Lib.hid (by rw [HZ.out]; simp), by simp; omega, by simp; omega, hsz2, Lib.hid (by rw [K1.out]; simp), S2⟩
    · have hlt2 : ¬ (i : Int) < (n : Int) := by omega
      have e1 : X2 = [] := List.length_eq_zero_iff.1 (by omega)
      have e2 : Z2 = [] := List.length_eq_zero_iff.1 (by omega)
      subst e1 e2
      have hfin := HD.out
      simp only [List.nil_append] at hfin
      have eX := HX.out
      have eZ := HZ.out
      rw [List.append_nil] at eX eZ
      rw [← eX, ← eZ] at hfin
      clear HX HZ HD eX eZ
      go_wp2
      go_end0
      exact ⟨rfl, dk, hfin, S1.out⟩
set_option maxHeartbeats 4000000 in
theorem rotate_any (k : Nat) (hk : k = 11) (g cap a m b N : Nat) (P X Y T : List EvP) (d0 d : Array EvP) (w0 w : World) (R : RowK encE k w0 g 0 d0) (hs : d0.size = N) (hd : d.toList = P ++ (X ++ (Y ++ T))) (hP : P.length = a) (hX : a + X.length = m) (hY : m + Y.length = b) (hX0 : 0 < X.length) (hY0 : 0 < Y.length)
    (hN : d.size = N) (hsz : N ≤ 1000000) (S : SWK encE k w0 g 0 d w) :
    Calls Tryz.prog 171 #[.slice (some ⟨g, 0, none⟩) N cap, .int .i64 a, .int .i64 m, .int .i64 b, cmpV] w fun e w' => e = .returned (.tuple #[]) ∧ ∃ d' : Array EvP, d'.toList = P ++ (Y ++ (X ++ T)) ∧ SWK encE k w0 g 0 d' w' := by
  have S0 := Lib.hid S
  have HD := Lib.hid hd
  have HR := Lib.hid R
  have HS := Lib.hid hs
  have HK := Lib.hid hk
  have hN2 := hN
  rw [swk_size (w0 := w0) (w := w) (g := g) hd] at hN2
  simp only [List.length_append] at hN2
  have e1 : (m : Int) - (a : Int) = (X.length : Int) := by omega
  have e2 : (b : Int) - (m : Int) = (Y.length : Int) := by omega
  obtain ⟨F, hF⟩ : ∃ F, P ++ (Y ++ (X ++ T)) = F := ⟨_, rfl⟩
  rw [hF]
  have HF := Lib.hid hF
  clear S hd R hs hk hF
  have HSW := Lib.hid (fun (n a b : Nat) (P X Y Z T : List EvP) (d : Array EvP) (w : World) hd hP hX hb hZ hN S => swaprange_any k HK.out g cap a b n N P X Y Z T d0 d w0 w HR.out HS.out hd hP hX hb hZ hN hsz S)
  generalize cmpV = cv at *
  generalize hx : X.length = x at *
  generalize hy : Y.length = y at *
  go_enter Tryz.func171, Tryz.ntmps171
  go_wp2
  go_loopg [10, 11] (x + y) (fun kx s10 s11 wr => ∃ (i j : Nat) (P' X' Y' T' : List EvP) (dk : Array EvP), s10 = .int .i64 i ∧ s11 = .int .i64 j ∧ i + j = kx ∧ 0 < i ∧ 0 < j ∧ X'.length = i ∧ Y'.length = j ∧ P'.length + i = m ∧ m + j + T'.length = N ∧ dk.size = N ∧ Hid (dk.toList = P' ++ (X' ++ (Y' ++ T'))) ∧ Hid (P' ++ (Y' ++ (X' ++ T')) = F) ∧ Hid (SWK encE k w0 g 0 dk wr))
  case atStart => exact ⟨x, y, P, X, Y, T, d, rfl, rfl, rfl, hX0, hY0, hx, hy, by omega, by omega, hN, HD, HF, S0⟩
  case round =>
    clear S0 HD HF
    obtain ⟨i, j, P', X', Y', T', dk, rfl, rfl, hkx, hi0, hj0, hX1, hY1, hP1, hT1, hdk, HD, HF, S1⟩ := hrel
    have ep : (m : Int) - (i : Int) = ((P'.length : Nat) : Int) := by omega
    by_cases hij : i = j
    · subst hij
      have hcall := HSW.out i P'.length m P' X' [] Y' T' dk wr (by rw [HD.out]; simp) rfl hX1 (by simp; omega) hY1 hdk S1.out
      rw [← ep] at hcall
      have HC := Lib.hid hcall
      clear hcall ep
      go_wp2_with fail
      refine HC.out.mono ?_
      rintro e w5 ⟨rfl, d5, h5, S5⟩
      go_wp2
      go_end0
      exact ⟨rfl, d5, by rw [h5, ← HF.out]; simp, S5⟩
    · have hne : ¬ (i : Int) = (j : Int) := by omega
      by_cases hgt : j < i
      · have hgt2 : (j : Int) < (i : Int) := by omega
        obtain ⟨X1, X2, rfl, hl1⟩ := cut_at X' j (by omega)
        rw [List.length_append] at hX1
        have hcall := HSW.out j P'.length m P' X1 X2 Y' T' dk wr (by rw [HD.out]; simp) rfl hl1 (by omega) hY1 hdk S1.out
        rw [← ep] at hcall
        have HC := Lib.hid hcall
        have ed : (i : Int) - (j : Int) = ((i - j : Nat) : Int) := by omega
        clear hcall ep
        go_wp2_with fail
        refine HC.out.mono ?_
        rintro e w5 ⟨rfl, d5, h5, S5⟩
        go_wp2
        have hsz5 : d5.size = N := by rw [swk_size (w0 := w0) (w := w) (g := g) h5]; simp only [List.length_append]; omega
        go_roundg (i - j + j)
        case measure => omega
        case rel => exact ⟨i - j, j, P' ++ Y', X2, X1, T', d5, rfl, rfl, rfl, by omega, hj0, by omega, hl1, by rw [List.length_append]; omega, hT1, hsz5, Lib.hid (by rw [h5] <;> simp), Lib.hid (by rw [← HF.out] <;> simp), Lib.hid S5⟩
      · have hgt2 : ¬ (j : Int) < (i : Int) := by omega
        obtain ⟨Y1, Y2, rfl, hl1⟩ := cut_at Y' (j - i) (by omega)
        rw [List.length_append] at hY1
        have ep2 : (m : Int) + (j : Int) - (i : Int) = ((m + j - i : Nat) : Int) := by omega
        have hcall := HSW.out i P'.length (m + j - i) P' X' Y1 Y2 T' dk wr (by rw [HD.out]; simp) rfl hX1 (by omega) (by omega) hdk S1.out
        rw [← ep, ← ep2] at hcall
        have HC := Lib.hid hcall
        have ed : (j : Int) - (i : Int) = ((j - i : Nat) : Int) := by omega
        clear hcall ep ep2
        go_wp2_with fail
        refine HC.out.mono ?_
        rintro e w5 ⟨rfl, d5, h5, S5⟩
        go_wp2
        have hsz5 : d5.size = N := by rw [swk_size (w0 := w0) (w := w) (g := g) h5]; simp only [List.length_append]; omega
        go_roundg (i + (j - i))
        case measure => omega
        case rel => exact ⟨i, j - i, P', Y2, Y1, X' ++ T', d5, rfl, rfl, rfl, hi0, by omega, by omega, by omega, hP1, by rw [List.length_append]; omega, hsz5, Lib.hid (by rw [h5] <;> simp), Lib.hid (by rw [← HF.out] <;> simp), Lib.hid S5⟩
end Go.Proofs.YtpgncbhahocmbaaGreat

namespace Go.Proofs.YtpgncbhahocmbaaGreat
open Go.RowKit
set_option linter.unusedVariables false

def RVal (v : Value) : Option (DataW Value × List MemPlace) := some (.held v, [])
def updF (f : Int → Option Value) (k : Int) (v : Value) : Int → Option Value := fun i => if i = k then some v else f i
theorem int_keyed3 : Maps.Keyed Tryz.prog 3 := Maps.int_keyed Tryz.underlying3
theorem int_key3 {i : Int} (h : -9223372036854775808 ≤ i ∧ i ≤ 9223372036854775807) : keyOf Tryz.prog 3 (.int .i64 i) = some (.int .i64 i) :=
  Maps.keyOf_int_mk Tryz.underlying3 (by simp [Lit.wf, IntKind.min, IntKind.max, IntKind.bits, IntKind.signed]; omega)
/-- Block b is a map from numbers to slices, of at most n entries; f tells what it has. -/
def MapI (w : World) (b n : Nat) (f : Int → Option Value) : Prop :=
  ∃ D : DataW Value, w.ownsMap Tryz.prog 3 RVal b n D ∧ Maps.IsMap D ∧ ∀ i : Int, (-9223372036854775808 ≤ i ∧ i ≤ 9223372036854775807) → Maps.has D (.int .i64 i) = (f i).isSome ∧ ∀ v, f i = some v → ∀ z, D.atKey (.int .i64 i) z = .held v

section
variable {w w' : World} {b n : Nat} {f : Int → Option Value}
theorem MapI.lt (h : MapI w b n f) : b < w.heap.size := by
  obtain ⟨D, h, _⟩ := h
  exact h.lt
theorem MapI.new (w : World) {s : Nat} (hs : w.heap.size = s) : MapI (w.alloc (.map #[] 0)) s 0 (fun _ => none) := by
  subst hs
  exact ⟨.map [], World.ownsMap_made w _ _ _, Maps.isMap_empty, fun i _ => ⟨rfl, fun v h => by cases h⟩⟩
theorem MapI.kept {row : Option Nat} (h : MapI w b n f) (hg : w.grownBy w' row) (hne : some b ≠ row) : MapI w' b n f := by
  obtain ⟨D, h, r⟩ := h
  exact ⟨D, h.kept hg hne, r⟩
theorem MapI.alloc (h : MapI w b n f) (o : Obj) : MapI (w.alloc o) b n f := by
  obtain ⟨D, h, r⟩ := h
  exact ⟨D, h.alloc o, r⟩
theorem MapI.below (h : MapI w b n f) (hb : Below w.heap.size w w') : MapI w' b n f := by
  have hl := h.lt
  obtain ⟨D, ⟨es, clock, hh, F, hs, hD⟩, r⟩ := h
  exact ⟨D, ⟨es, clock, (hb.block b hl).trans hh, F, hs, hD⟩, r⟩
theorem MapI.far (h : MapI w b n f) {p : Addr} (hp : b ≠ p.block) (u : Value) : MapI (w.setCell p u) b n f := by
  obtain ⟨D, h, r⟩ := h
  exact ⟨D, h.setCell hp u, r⟩
theorem MapI.eqv {g : Int → Option Value} (h : MapI w b n f) (e : f = g) : MapI w b n g := by subst e; exact h
theorem lit_int_ne {i k : Int} (h : i ≠ k) : Lit.int .i64 i ≠ Lit.int .i64 k := fun e => h (by injection e)
/-- What 'm[k] = v' does. -/
theorem MapI.put (h : MapI w b n f) (hn : n < 1000) {t : TypeId} {e : TypeId} (ht : Tryz.prog.underlying t = some (.map 3 e)) {k : Int} (hk : -9223372036854775808 ≤ k ∧ k ≤ 9223372036854775807) (v : Value) :
    ∃ w', (Instr.mapUpdate t (.map (some b)) (.int .i64 k) v).run Tryz.prog w = .ok () w' ∧ MapI w' b (n + 1) (updF f k v) ∧ w.grownBy w' (some b) := by
  obtain ⟨D, h, hm, hf⟩ := h
  obtain ⟨w', hr, h2, hg⟩ := h.update int_keyed3 ht (by unfold maxLen; omega) (int_key3 hk) (d := .held v) (ps := []) rfl
  refine ⟨w', hr, ⟨D.put (.int .i64 k) (.held v), h2, hm.put _ _, fun i hi => ?_⟩, hg⟩
  obtain ⟨h3, h4⟩ := hf i hi
  unfold updF
  by_cases e : i = k
  · subst e
    rw [if_pos rfl]
    refine ⟨by rw [Maps.has_put_same hm (by trivial)]; rfl, fun u hu z => ?_⟩
    cases hu
    exact Maps.atKey_put_same hm (by trivial) _ _
  · rw [if_neg e]
    exact ⟨by rw [Maps.has_put_other (lit_int_ne e)]; exact h3, fun u hu z => by rw [Maps.atKey_put_other (lit_int_ne e)]; exact h4 u hu z⟩
/-- What a number is told. -/
def toldV (o : Option Value) (z : Value) : Value := match o with | some v => v | none => z
theorem MapI.look (h : MapI w b n f) {t e : TypeId} (ht : Tryz.prog.underlying t = some (.map 3 e)) {z : Value} (hz : (zeroValue e).run Tryz.prog w = .ok z w) {k : Int} (hk : -9223372036854775808 ≤ k ∧ k ≤ 9223372036854775807) :
    (Instr.lookup t (.map (some b)) (.int .i64 k) true).run Tryz.prog w = .ok (.tuple #[toldV (f k) z, .bool (f k).isSome]) w ∧ (Instr.lookup t (.map (some b)) (.int .i64 k) false).run Tryz.prog w = .ok (toldV (f k) z) w := by
  obtain ⟨D, h, hm, hf⟩ := h
  obtain ⟨h3, h4⟩ := hf k hk
  obtain ⟨v, ps, hr, hv⟩ := h.look_ok int_keyed3 ht hz (zd := .held z) (zp := []) rfl (int_key3 hk)
  obtain ⟨v', ps', hr', hv'⟩ := h.lookup int_keyed3 ht hz (zd := .held z) (zp := []) rfl (int_key3 hk)
  rw [h3] at hr
  have key : ∀ u qs, RVal u = some (D.atKey (.int .i64 k) (.held z), qs) → u = toldV (f k) z := by
    intro u qs hu
    unfold RVal at hu
    simp only [Option.some.injEq, Prod.mk.injEq] at hu
    cases hfk : f k with
    | none =>
      rw [hfk] at h3
      rw [Maps.atKey_of_not_has h3] at hu
      injection hu.1
    | some y =>
      rw [h4 y hfk] at hu
      injection hu.1
  rw [key v ps hv] at hr
  rw [key v' ps' hv'] at hr'
  exact ⟨hr, hr'⟩
end
/-- In a drawn region: an insert into a map. -/
theorem wp_insert_map {o : Oper} {a : Act} {w : World} {K : Act → World → Prop} {Q : Exit → Act → World → Prop} {m x v : Operand} {t e : TypeId} {b n : Nat} {f : Int → Option Value} {k : Int} {val : Value}
    (h : MapI w b n f) (ho : o.op = .insert t m x v) (ht : Tryz.prog.underlying t = some (.map 3 e)) (hm : a.eval m = .map (some b)) (hx : a.eval x = .int .i64 k) (hv : a.eval v = val) (hn : n < 1000) (hk : -9223372036854775808 ≤ k ∧ k ≤ 9223372036854775807)
    (hK : ∀ w', MapI w' b (n + 1) (updF f k val) → w.grownBy w' (some b) → K (a.put o.dst undef) w') : o.wp Tryz.prog a w K Q := by
  obtain ⟨w', hr, h2, hg⟩ := h.put hn ht hk val
  unfold Oper.wp
  simp [execOp, ho, hm, hx, hv, hr, Result.andThen]
  exact hK w' h2 hg
theorem Has.grown {w w' : World} {g : Nat} {cs : Array Value} {row : Option Nat} (h : Has w g cs) (hg : w.grownBy w' row) (hne : some g ≠ row) : Has w' g cs := by
  have hl := h.size
  obtain ⟨t, h⟩ := h
  exact ⟨t, (hg.block g hl hne).trans h⟩
end Go.Proofs.YtpgncbhahocmbaaGreat

namespace Go.Proofs.YtpgncbhahocmbaaGreat
open Go.RowKit
set_option linter.unusedVariables false
set_option linter.unusedSimpArgs false

/-- What stood at the blocks F is as it was. -/
structure Kept (F : Nat → Prop) (w w' : World) : Prop where
  os : w'.os = w.os
  tape : w'.tape = w.tape
  output : w'.output = w.output
  size : w.heap.size ≤ w'.heap.size
  block : ∀ b, F b → w'.heap[b]? = w.heap[b]?
theorem Kept.refl (F : Nat → Prop) (w : World) : Kept F w w := ⟨rfl, rfl, rfl, Nat.le_refl _, fun _ _ => rfl⟩
section
variable {F G : Nat → Prop} {a b c w w' : World}
theorem Kept.on (h : Kept F a b) (k : Kept F b c) : Kept F a c :=
  ⟨k.os.trans h.os, k.tape.trans h.tape, k.output.trans h.output, Nat.le_trans h.size k.size, fun i hi => (k.block i hi).trans (h.block i hi)⟩
theorem Kept.less (h : Kept F a b) (hF : ∀ i, G i → F i) : Kept G a b := ⟨h.os, h.tape, h.output, h.size, fun i hi => h.block i (hF i hi)⟩
theorem Kept.of_below (h : Below w.heap.size w w') (hF : ∀ i, F i → i < w.heap.size) : Kept F w w' := ⟨h.os, h.tape, h.output, h.size, fun i hi => h.block i (hF i hi)⟩
theorem Kept.below {B : Nat} (h : Kept F a b) (hF : ∀ i, i < B → F i) : Below B a b := ⟨h.os, h.tape, h.output, h.size, fun i hi => h.block i (hF i hi)⟩
end
/-- All that stood is as it was, but for the blocks M. -/
def Chg (M : Nat → Prop) (w w' : World) : Prop := Kept (fun b => b < w.heap.size ∧ ¬ M b) w w'
section
variable {M : Nat → Prop} {a w w' : World}
theorem Chg.refl (M : Nat → Prop) (w : World) : Chg M w w := Kept.refl _ _
theorem Chg.size (h : Chg M w w') : w.heap.size ≤ w'.heap.size := Kept.size h
theorem Chg.on (h : Chg M a w) (k : Chg M w w') : Chg M a w' :=
  Kept.on h (Kept.less k fun i hi => ⟨Nat.lt_of_lt_of_le hi.1 (Kept.size h), hi.2⟩)
theorem Chg.of_below (h : Below w.heap.size w w') : Chg M w w' := Kept.of_below h fun _ hi => hi.1
theorem Chg.onB (h : Chg M a w) (k : Below w.heap.size w w') : Chg M a w' := h.on (.of_below k)
theorem Chg.alloc (h : Chg M a w) (o : Obj) : Chg M a (w.alloc o) := h.onB (bel_alloc (Below.refl _ _) _)
theorem Chg.none (h : Chg (fun _ => False) a w) : Below a.heap.size a w := Kept.below h fun _ hi => ⟨hi, fun x => x⟩
theorem Chg.below {B : Nat} (h : Chg M a w) (hB : B ≤ a.heap.size) (hM : ∀ i, M i → B ≤ i) : Below B a w := Kept.below h fun i hi => ⟨by omega, fun x => by have := hM i x; omega⟩
theorem Chg.set (h : Chg M a w) {p : Addr} (hp : a.heap.size ≤ p.block ∨ M p.block) (v : Value) : Chg M a (w.setCell p v) := by
  refine ⟨h.os, h.tape, h.output, ?_, fun b hb => ?_⟩
  · have := Kept.size h
    simp [World.setCell]
    exact this
  · rw [Below.heap_setCell w p v b (by rintro rfl; rcases hp with hp | hp; omega; exact hb.2 hp)]
    exact Kept.block h b hb
theorem Has.chg {g : Nat} {cs : Array Value} (h : Has w g cs) (hM : ¬ M g) (k : Chg M w w') : Has w' g cs := by
  have hl := h.size
  obtain ⟨t, h⟩ := h
  exact ⟨t, (Kept.block k g ⟨hl, hM⟩).trans h⟩
theorem Has.kept {F : Nat → Prop} {g : Nat} {cs : Array Value} (h : Has w g cs) (hF : F g) (k : Kept F w w') : Has w' g cs := by
  obtain ⟨t, h⟩ := h
  exact ⟨t, (k.block g hF).trans h⟩
end
/-- All below n. -/
def allP (p : Nat → Bool) (n : Nat) : Bool := (List.range n).all p
theorem allP_succ (p : Nat → Bool) (n : Nat) : allP p (n + 1) = (allP p n && p n) := by simp [allP, List.range_succ]
theorem allP_bad {p : Nat → Bool} {n i : Nat} (h : i < n) (hp : p i = false) : allP p n = false := by
  unfold allP
  rw [List.all_eq_false]
  exact ⟨i, List.mem_range.2 h, by rw [hp]; simp⟩
theorem allP_iff {p : Nat → Bool} {n : Nat} : allP p n = true ↔ ∀ i, i < n → p i = true := by simp [allP]
end Go.Proofs.YtpgncbhahocmbaaGreat

namespace Go.Proofs.YtpgncbhahocmbaaGreat
set_option linter.unusedVariables false
set_option linter.unusedSimpArgs false

theorem segI_len (a b : Int) (e : EvP) : (segI a b e).length ≤ 1 := by unfold segI; split <;> simp
theorem sparts_len {first last : Int} : ∀ (ins : List EvP) (a : Int) (e : EvP), (partsG first last a e ins).length ≤ ins.length + 1
  | [], a, e => segI_len _ _ _
  | f :: l, a, e => by
    have h1 := segI_len a (placeP first last f) e
    have h2 := sparts_len (first := first) (last := last) l (placeP first last f) f
    show (segI a (placeP first last f) e ++ _).length ≤ _
    rw [List.length_append, List.length_cons]
    omega
def stN : StP → Nat
  | none => 0
  | some (_, ins) => ins.length + 1
theorem segs_len (R : Int → Int) {cap : Int} : ∀ (L : List EvP) (st : StP), (segsS R (itemsS cap st L)).length ≤ L.length + stN st
  | [], none => by simp [itemsS, closeS, segsS]
  | [], some (e, ins) => by
    have := sparts_len (first := R e.tm) (last := R (e.tm + cap)) ins (R e.tm) e
    have e1 : segsS R (itemsS cap (some (e, ins)) []) = partsG (R e.tm) (R (e.tm + cap)) (R e.tm) e ins := by simp [itemsS, closeS, segsS, segsI]
    rw [e1]
    simp [stN]
    omega
  | b :: L, st => by
    have ih := segs_len R (cap := cap) L (stepS cap st b).2
    have e0 : itemsS cap st (b :: L) = (stepS cap st b).1 ++ itemsS cap (stepS cap st b).2 L := rfl
    rw [e0, segsS_append, List.length_append, List.length_cons]
    have hs : (segsS R (stepS cap st b).1).length + stN (stepS cap st b).2 ≤ 1 + stN st := by
      match st with
      | none => by_cases k : b.kd = 1 <;> simp [stepS, k, segsS, segsI, stN]
      | some (e, ins) =>
        have p1 := sparts_len (first := R e.tm) (last := R (e.tm + cap)) ins (R e.tm) e
        have p2 := sparts_len (first := R e.tm) (last := R b.tm) ins (R e.tm) e
        by_cases q : e.tm + cap < b.tm
        · by_cases k : b.kd = 1 <;> simp [stepS, k, q, segsS, segsI, stN] <;> omega
        · by_cases k : b.kd = 1
          · simp [stepS, k, q, segsS, segsI, stN]; omega
          · by_cases k2 : b.kd = 2
            · simp [stepS, k2, q, segsS, segsI, stN]; omega
            · simp [stepS, k, k2, q, segsS, segsI, stN]; omega
    omega
/-! ### Numbers -/
def segL (s : SegP) : List Int := [s.fr, s.to, s.kd, s.id, s.cd]
def flagL (f : FlagP) : List Int := [f.id, f.kd]
def spanOf (s : SegP) : Int × Int := (s.fr, s.to)
/-- The seconds of parts, and of those of one kind. -/
noncomputable def clockP (l : List SegP) : List (Int × Int) := canon (InS l)
theorem in_spans (l : List SegP) (t : Int) : In (l.map spanOf) t ↔ InS l t := by
  constructor
  · rintro ⟨s, hs, h1, h2⟩
    obtain ⟨x, hx, rfl⟩ := List.mem_map.1 hs
    exact ⟨x, hx, h1, h2⟩
  · rintro ⟨x, hx, h1, h2⟩
    exact ⟨spanOf x, List.mem_map.2 ⟨x, hx, rfl⟩, h1, h2⟩
theorem clock_spans (l : List SegP) : canon (In (l.map spanOf)) = clockP l := canon_congr fun t _ _ => in_spans l t
end Go.Proofs.YtpgncbhahocmbaaGreat

namespace Go.Proofs.YtpgncbhahocmbaaGreat
open Go.RowKit Go.Deep Go.WideShapes
set_option linter.unusedVariables false
set_option maxRecDepth 20000

theorem nums_at {P : Program} {t : TypeId} {k : Nat} (h : NumsT P t k) (hk : P.cellsOf t = k) : NumsT P t (P.cellsOf t) := by rw [hk]; exact h
theorem numsT_int : NumsT Tryz.prog 3 1 := alli_int Tryz.underlying3
theorem numsT_ratio : NumsT Tryz.prog 24 2 := alli_struct Tryz.underlying24 (by kernel_rfl)
  ⟨rfl, nums_at numsT_int (by kernel_rfl), by kernel_rfl, nums_at numsT_int (by kernel_rfl), by change _ = _; kernel_rfl⟩
theorem numsT_way : NumsT Tryz.prog 125 3 := alli_struct Tryz.underlying125 (by kernel_rfl)
  ⟨rfl, nums_at numsT_int (by kernel_rfl), by kernel_rfl, nums_at numsT_int (by kernel_rfl), by kernel_rfl, nums_at numsT_int (by kernel_rfl), by change _ = _; kernel_rfl⟩
theorem numsT_tier : NumsT Tryz.prog 67 2 := alli_struct Tryz.underlying67 (by kernel_rfl)
  ⟨rfl, nums_at numsT_int (by kernel_rfl), by kernel_rfl, nums_at numsT_int (by kernel_rfl), by change _ = _; kernel_rfl⟩
theorem numsT_element : NumsT Tryz.prog 104 4 := alli_struct Tryz.underlying104 (by kernel_rfl)
  ⟨rfl, nums_at numsT_ratio (by kernel_rfl), by kernel_rfl, nums_at numsT_ratio (by kernel_rfl), by change _ = _; kernel_rfl⟩
theorem setup_open {H : Type} {enc : TypeId × Value → H} {w : World} {r : Reach} {b0 base : Nat} {held : Bool} {v : Value} {d : DataW H} {p : List MemPlace}
    (hv : Value.okWide Tryz.prog w r b0 30 v) (h : DataW.Trod enc Tryz.prog w base (fun _ => true) held 30 v d p) :
    ∃ (s : SetP) (A1 A2 A3 A4 A5 A6 : Option Addr) (c1 c2 c3 c4 c5 c6 : Nat), v = setV s A1 A2 A3 A4 A5 A6 c1 c2 c3 c4 c5 c6 ∧ SetAt w s A1 A2 A3 A4 A5 A6 c1 c2 c3 c4 c5 c6 ∧ s.Fit :=
  open_setup Tryz.underlying30 (by kernel_rfl) (by kernel_rfl) Tryz.underlying3 (by kernel_rfl) Tryz.underlying22 numsT_way (by kernel_rfl) numsT_ratio
    Tryz.underlying25 numsT_element (by kernel_rfl) Tryz.underlying26 numsT_ratio (by kernel_rfl) Tryz.underlying27 Tryz.underlying28 numsT_tier (by kernel_rfl) hv h
end Go.Proofs.YtpgncbhahocmbaaGreat
