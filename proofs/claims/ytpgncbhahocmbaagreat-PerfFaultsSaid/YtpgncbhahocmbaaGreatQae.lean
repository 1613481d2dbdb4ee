/-
  The library's merge in place, at events: symMergeCmpFunc.
-/
import Derived.Test.YtpgncbhahocmbaaGreatQad
namespace Go.Proofs.YtpgncbhahocmbaaGreat
open Go.RowKit Go.Sort
set_option linter.unusedVariables false
set_option linter.unusedSimpArgs false
set_option maxRecDepth 1000000

theorem ev_sort_self {l : List EvP} (h : Risen l) : sortE l = l := (ev_sort_of h (fun _ => rfl)).symm
/-- What a merge in place makes of two parts in order. -/
def SymC (k g cap N : Nat) (w0 : World) (a m b : Nat) : Prop :=
  ∀ (P X Y T : List EvP) (d : Array EvP) (w : World), d.toList = P ++ ((X ++ Y) ++ T) → P.length = a → a + X.length = m → m + Y.length = b → Risen X → Risen Y → d.size = N → SWK encE k w0 g 0 d w →
    Calls Tryz.prog 156 #[.slice (some ⟨g, 0, none⟩) N cap, .int .i64 a, .int .i64 m, .int .i64 b, .func (.func 109) #[] #[]] w fun e w' => e = .returned (.tuple #[]) ∧ ∃ d' : Array EvP, d'.toList = P ++ (sortE (X ++ Y) ++ T) ∧ SWK encE k w0 g 0 d' w'
set_option maxHeartbeats 8000000 in
theorem sym_left (k : Nat) (hk : k = 11) (g cap N a m b : Nat) (d0 : Array EvP) (w0 : World) (R : RowK encE k w0 g 0 d0) (hs : d0.size = N) (hsz : N ≤ 1000000) (ham : a + 1 = m) (hmb : m < b) : SymC k g cap N w0 a m b := by
  intro P X Y T d w hd hP hX hYb hrX hrY hN S
  have mixed : Tryz.prog.follows .mixedOrders = true := by kernel_rfl
  have aE := Tryz.isAgg43
  have zE : ∀ w, (Go.sizeOf 43).run Tryz.prog w = .ok k w := fun w => by rw [hk]; exact Tryz.sizeOf43 w
  have HC : Hid (CmpLays Tryz.prog 109 #[] encE k cfE g 0 d0.size w0) := Lib.hid (by rw [hk]; exact cmp_lays _ _ _ _)
  have hN2 := hN
  rw [swk_size (w0 := w0) (w := w) (g := g) hd] at hN2
  simp only [List.length_append] at hN2
  have eg := order_enters
  obtain ⟨x, X', rfl⟩ := cut_head X (by omega)
  obtain rfl : X' = [] := List.length_eq_zero_iff.1 (by simp at hX; omega)
  simp only [List.length_cons, List.length_nil] at hN2
  have S0 := Lib.hid S
  have HD := Lib.hid hd
  have HYR := Lib.hid hrY
  have em : (m : Int) - (a : Int) = 1 := by omega
  have hv0 : x = d[a]! := by
    rw [at_list d (by omega), hd, show P ++ ([x] ++ Y ++ T) = P ++ x :: (Y ++ T) by simp]
    exact (atE_mid hP).symm
  have HV := Lib.hid hv0
  clear S hd hk hrX hrY hv0 hX
  go_enter Tryz.func156, Tryz.ntmps156
  go_wp2
  go_loopg [10, 11] (b - m) (fun kx s10 s11 wr => ∃ (i j : Nat), s10 = .int .i64 i ∧ s11 = .int .i64 j ∧ m ≤ i ∧ i ≤ j ∧ j ≤ b ∧ j - i ≤ kx ∧ Hid (i = m ∨ lessE (atE d.toList (i - 1)) x = true) ∧ Hid (j = b ∨ lessE (atE d.toList j) x = false) ∧ Hid (SWK encE k w0 g 0 d wr))
  case atStart => exact ⟨m, b, rfl, rfl, by omega, by omega, by omega, by omega, .inl rfl, .inl rfl, S0⟩
  case round =>
    clear S0
    obtain ⟨i, j, rfl, rfl, hi, hij, hj, hkx, HLO, HHI, S1⟩ := hrel
    by_cases hlt : i < j
    · have hlt2 : (i : Int) < (j : Int) := by omega
      obtain ⟨h, hh⟩ : ∃ h, h = (i + j) / 2 := ⟨_, rfl⟩
      have eh : ((i : Int) + (j : Int)) / 2 = (h : Int) := by omega
      have hh1 : i ≤ h ∧ h < j := by omega
      clear hh
      obtain ⟨u, hu⟩ : ∃ x, x = d[h]! := ⟨_, rfl⟩
      obtain ⟨v, hv⟩ : ∃ x, x = d[a]! := ⟨_, rfl⟩
      have hux : u = atE d.toList h := hu.trans (at_list d (by omega))
      have hvx : v = x := hv.trans HV.out.symm
      have HUX := Lib.hid hux
      have HVX := Lib.hid hvx
      clear hux hvx
      cases hL : lessE u v with
      | true =>
        have ea : ((h : Int)).toNat = h := by omega
        have pa : (0 : Int) ≤ (h : Int) := by omega
        have ba : (h : Int) < (N : Int) := by omega
        have ra : IntKind.i64.wrap ((h : Int)) = (h : Int) := by rw [IntKind.wrap_i64]; omega
        have ec : ((a : Int)).toNat = a := by omega
        have pc : (0 : Int) ≤ (a : Int) := by omega
        have bc : (a : Int) < (N : Int) := by omega
        have rc : IntKind.i64.wrap ((a : Int)) = (a : Int) := by rw [IntKind.wrap_i64]; omega
        have la := S1.out.ld R (by omega) Tryz.prog (h) (by omega)
        have lb := S1.out.ld R (by omega) Tryz.prog (a) (by omega)
        rw [← hu] at la
        rw [← hv] at lb
        simp only [Nat.zero_add] at la lb
        have hc := S1.out.cmp HC.out (by omega) u v
        simp only [Array.append_empty] at hc
        have hv24 : cfE u v < 0 := of_decide_eq_true ((cf_less u v).trans hL)
        have hd24 : decide (cfE u v < 0) = true := decide_eq_true hv24
        clear hu hv
        generalize encE u = cu at la hc
        generalize encE v = cv at lb hc
        go_wp2_with fail
        go_quiet_grown (first | (go_at_fn 109; refine Calls.grown_of (hc _ _)))
        have S2 := Lib.hid (S1.out.grown nq osq)
        clear la lb hc S1 ea pa ba ra ec pc bc rc
        generalize grow (wr.drewN nq) osq = w2 at S2 ⊢
        clear nq osq
        go_wp2
        go_roundg (j - (h + 1))
        case measure => omega
        case rel => exact ⟨h + 1, j, by simp, rfl, by omega, by omega, hj, by omega, Lib.hid (.inr (by rw [Nat.add_sub_cancel, ← HUX.out, ← HVX.out]; exact hL)), HHI, S2⟩
      | false =>
        have ea : ((h : Int)).toNat = h := by omega
        have pa : (0 : Int) ≤ (h : Int) := by omega
        have ba : (h : Int) < (N : Int) := by omega
        have ra : IntKind.i64.wrap ((h : Int)) = (h : Int) := by rw [IntKind.wrap_i64]; omega
        have ec : ((a : Int)).toNat = a := by omega
        have pc : (0 : Int) ≤ (a : Int) := by omega
        have bc : (a : Int) < (N : Int) := by omega
        have rc : IntKind.i64.wrap ((a : Int)) = (a : Int) := by rw [IntKind.wrap_i64]; omega
        have la := S1.out.ld R (by omega) Tryz.prog (h) (by omega)
        have lb := S1.out.ld R (by omega) Tryz.prog (a) (by omega)
        rw [← hu] at la
        rw [← hv] at lb
        simp only [Nat.zero_add] at la lb
        have hc := S1.out.cmp HC.out (by omega) u v
        simp only [Array.append_empty] at hc
        have hv24 : ¬ cfE u v < 0 := of_decide_eq_false ((cf_less u v).trans hL)
        have hd24 : decide (cfE u v < 0) = false := decide_eq_false hv24
        clear hu hv
        generalize encE u = cu at la hc
        generalize encE v = cv at lb hc
        go_wp2_with fail
        go_quiet_grown (first | (go_at_fn 109; refine Calls.grown_of (hc _ _)))
        have S2 := Lib.hid (S1.out.grown nq osq)
        clear la lb hc S1 ea pa ba ra ec pc bc rc
        generalize grow (wr.drewN nq) osq = w2 at S2 ⊢
        clear nq osq
        go_wp2
        go_roundg (h - i)
        case measure => omega
        case rel => exact ⟨i, h, rfl, rfl, hi, by omega, by omega, by omega, HLO, Lib.hid (.inr (by rw [← HUX.out, ← HVX.out]; exact hL)), S2⟩
    · obtain rfl : i = j := by omega
      have hlt2 : ¬ (i : Int) < (i : Int) := by omega
      have hlo := HLO.out
      have hhi := HHI.out
      rw [HD.out, show P ++ ([x] ++ Y ++ T) = P ++ [x] ++ Y ++ T by simp] at hlo hhi
      obtain ⟨Y1, Y2, rfl, hl1, hl2⟩ := one_left hP ham.symm hYb hi hj HYR.out hlo hhi
      have HFIN := Lib.hid hl2
      have hd2 : d.toList = P ++ ([] ++ x :: (Y1 ++ (Y2 ++ T))) := by rw [HD.out]; simp
      have HD2 := Lib.hid hd2
      have hlen := hN2
      simp only [List.length_append, List.length_cons, List.length_nil] at hlen
      clear hlo hhi HLO HHI HD hl2 hd2 HYR HV
      go_wp2
      go_loopg [13] (i - 1 - a) (fun kx s13 wr => ∃ (q : Nat) (Ya Yb : List EvP) (dk : Array EvP), s13 = .int .i64 q ∧ q + kx = i - 1 ∧ Hid (Y1 = Ya ++ Yb) ∧ a + Ya.length = q ∧ dk.size = N ∧ Hid (dk.toList = P ++ (Ya ++ x :: (Yb ++ (Y2 ++ T)))) ∧ Hid (SWK encE k w0 g 0 dk wr))
      case atStart => exact ⟨a, [], Y1, d, rfl, by omega, rfl, rfl, hN, HD2, S1⟩
      case round =>
        clear S1 HD2
        obtain ⟨q, Ya, Yb, dk, rfl, hq, HY1, hYa, hdk, HDK, S1⟩ := hrel
        have lY := congrArg List.length HY1.out
        rw [List.length_append] at lY
        by_cases hlt : q < i - 1
        · have hlt3 : (q : Int) < (i : Int) - 1 := by omega
          obtain ⟨z, Yb', rfl⟩ := cut_head Yb (by omega)
          rw [List.length_cons] at lY
          have hd3 : dk.toList = (P ++ Ya) ++ x :: ([] ++ z :: (Yb' ++ (Y2 ++ T))) := by rw [HDK.out]; simp
          obtain ⟨k1, -, p1, p2⟩ := swp_parts (p := q) (q := q + 1) hd3 (by rw [List.length_append]; omega) (by simp)
          have K1 := Lib.hid k1
          clear k1 hd3 HDK
          have ea44 : ((q : Int)).toNat = q := by omega
          have pa44 : (0 : Int) ≤ (q : Int) := by omega
          have ba44 : (q : Int) < (N : Int) := by omega
          have ra44 : IntKind.i64.wrap ((q : Int)) = (q : Int) := by rw [IntKind.wrap_i64]; omega
          have ec44 : ((q : Int) + 1).toNat = q + 1 := by omega
          have pc44 : (0 : Int) ≤ (q : Int) + 1 := by omega
          have bc44 : (q : Int) + 1 < (N : Int) := by omega
          have rc44 : IntKind.i64.wrap ((q : Int) + 1) = (q : Int) + 1 := by rw [IntKind.wrap_i64]; omega
          go_wp2_with fail
          have S2 := Lib.hid (S1.out.swapped R (q) (q + 1) (by omega) (by omega))
          have l44a := S1.out.ld1 R (by omega) Tryz.prog (q) (by omega)
          have l44b := S1.out.ld1 R (by omega) Tryz.prog (q + 1) (by omega)
          have s44a := S1.out.st1 R (by omega) Tryz.prog (q) (by omega) dk[q + 1]!
          have s44b := S1.out.st2 R (by omega) Tryz.prog (q) (q + 1) (by omega) (by omega) dk[q + 1]! dk[q]!
          have n44a : (encE dk[q]!).length = k := R.hk _
          have n44b : (encE dk[q + 1]!).length = k := R.hk _
          generalize encE dk[q]! = cI44 at S2 l44a s44b n44a
          generalize encE dk[q + 1]! = cJ44 at S2 l44b s44a s44b n44b
          clear S1
          simp only [Nat.zero_add] at S2 l44a l44b s44a s44b
          go_wp2_with fail
          go_big_region_o
          clear l44a l44b s44a s44b
          generalize (wr.drew.setCells g ((q) * k) cJ44).setCells g ((q + 1) * k) cI44 = w2 at S2 ⊢
          have hsz2 : (swp dk (q) (q + 1)).size = N := by rw [size_swp]; exact hdk
          clear ea44 pa44 ba44 ra44 ec44 pc44 bc44 rc44 n44a n44b
          go_wp2
          go_roundg (i - 1 - (q + 1))
          case measure => omega
          case rel => exact ⟨q + 1, Ya ++ [z], Yb', _, by simp, by omega, Lib.hid (by rw [HY1.out]; simp), by simp; omega, hsz2, Lib.hid (by rw [K1.out]; simp), S2⟩
        · have hlt3 : ¬ (q : Int) < (i : Int) - 1 := by omega
          obtain rfl : Yb = [] := List.length_eq_zero_iff.1 (by omega)
          have hfin := HDK.out
          have e1 := HY1.out
          rw [List.append_nil] at e1
          rw [← e1, List.nil_append] at hfin
          clear e1
          have HQ := Lib.hid hfin
          have HQ2 := HQ
          clear hfin
          go_wp2
          refine bodyPost_ret (results_none rfl _ _ _) rfl ?_
          exact ⟨rfl, dk, by have hq := HFIN.out; rw [HQ.out]; simp only [List.singleton_append, List.append_assoc] at hq ⊢; rw [← hq]; simp only [List.append_assoc, List.cons_append], S1.out⟩
set_option maxHeartbeats 8000000 in
theorem sym_right (k : Nat) (hk : k = 11) (g cap N a m b : Nat) (d0 : Array EvP) (w0 : World) (R : RowK encE k w0 g 0 d0) (hs : d0.size = N) (hsz : N ≤ 1000000) (ham : a + 1 < m) (hmb : m + 1 = b) : SymC k g cap N w0 a m b := by
  intro P X Y T d w hd hP hX hYb hrX hrY hN S
  have mixed : Tryz.prog.follows .mixedOrders = true := by kernel_rfl
  have aE := Tryz.isAgg43
  have zE : ∀ w, (Go.sizeOf 43).run Tryz.prog w = .ok k w := fun w => by rw [hk]; exact Tryz.sizeOf43 w
  have HC : Hid (CmpLays Tryz.prog 109 #[] encE k cfE g 0 d0.size w0) := Lib.hid (by rw [hk]; exact cmp_lays _ _ _ _)
  have hN2 := hN
  rw [swk_size (w0 := w0) (w := w) (g := g) hd] at hN2
  simp only [List.length_append] at hN2
  have eg := order_enters
  obtain ⟨y, Y', rfl⟩ := cut_head Y (by omega)
  obtain rfl : Y' = [] := List.length_eq_zero_iff.1 (by simp at hYb; omega)
  simp only [List.length_cons, List.length_nil] at hN2
  have S0 := Lib.hid S
  have HD := Lib.hid hd
  have HXR := Lib.hid hrX
  have em : ¬ (m : Int) - (a : Int) = 1 := by omega
  have em1 : ((m : Int) - (a : Int) == 1) = false := by simpa using em
  have em2 : (b : Int) - (m : Int) = 1 := by omega
  have hv0 : y = d[m]! := by
    rw [at_list d (by omega), hd, show P ++ (X ++ [y] ++ T) = (P ++ X) ++ y :: T by simp]
    exact (atE_mid (by rw [List.length_append]; omega)).symm
  have HV := Lib.hid hv0
  clear S hd hk hrX hrY hv0 hYb
  go_enter Tryz.func156, Tryz.ntmps156
  go_wp2
  go_loopg [14, 15] (m - a) (fun kx s14 s15 wr => ∃ (i j : Nat), s14 = .int .i64 i ∧ s15 = .int .i64 j ∧ a ≤ i ∧ i ≤ j ∧ j ≤ m ∧ j - i ≤ kx ∧ Hid (i = a ∨ lessE y (atE d.toList (i - 1)) = false) ∧ Hid (j = m ∨ lessE y (atE d.toList j) = true) ∧ Hid (SWK encE k w0 g 0 d wr))
  case atStart => exact ⟨a, m, rfl, rfl, by omega, by omega, by omega, by omega, .inl rfl, .inl rfl, S0⟩
  case round =>
    clear S0
    obtain ⟨i, j, rfl, rfl, hi, hij, hj, hkx, HLO, HHI, S1⟩ := hrel
    by_cases hlt : i < j
    · have hlt2 : (i : Int) < (j : Int) := by omega
      obtain ⟨h, hh⟩ : ∃ h, h = (i + j) / 2 := ⟨_, rfl⟩
      have eh : ((i : Int) + (j : Int)) / 2 = (h : Int) := by omega
      have hh1 : i ≤ h ∧ h < j := by omega
      clear hh
      obtain ⟨u, hu⟩ : ∃ x, x = d[m]! := ⟨_, rfl⟩
      obtain ⟨v, hv⟩ : ∃ x, x = d[h]! := ⟨_, rfl⟩
      have hux : v = atE d.toList h := hv.trans (at_list d (by omega))
      have hvx : u = y := hu.trans HV.out.symm
      have HUX := Lib.hid hux
      have HVX := Lib.hid hvx
      clear hux hvx
      cases hL : lessE u v with
      | true =>
        have ea : ((m : Int)).toNat = m := by omega
        have pa : (0 : Int) ≤ (m : Int) := by omega
        have ba : (m : Int) < (N : Int) := by omega
        have ra : IntKind.i64.wrap ((m : Int)) = (m : Int) := by rw [IntKind.wrap_i64]; omega
        have ec : ((h : Int)).toNat = h := by omega
        have pc : (0 : Int) ≤ (h : Int) := by omega
        have bc : (h : Int) < (N : Int) := by omega
        have rc : IntKind.i64.wrap ((h : Int)) = (h : Int) := by rw [IntKind.wrap_i64]; omega
        have la := S1.out.ld R (by omega) Tryz.prog (m) (by omega)
        have lb := S1.out.ld R (by omega) Tryz.prog (h) (by omega)
        rw [← hu] at la
        rw [← hv] at lb
        simp only [Nat.zero_add] at la lb
        have hc := S1.out.cmp HC.out (by omega) u v
        simp only [Array.append_empty] at hc
        have hv24 : cfE u v < 0 := of_decide_eq_true ((cf_less u v).trans hL)
        have hd24 : decide (cfE u v < 0) = true := decide_eq_true hv24
        clear hu hv
        generalize encE u = cu at la hc
        generalize encE v = cv at lb hc
        go_wp2_with fail
        go_quiet_grown (first | (go_at_fn 109; refine Calls.grown_of (hc _ _)))
        have S2 := Lib.hid (S1.out.grown nq osq)
        clear la lb hc S1 ea pa ba ra ec pc bc rc
        generalize grow (wr.drewN nq) osq = w2 at S2 ⊢
        clear nq osq
        go_wp2
        go_roundg (h - i)
        case measure => omega
        case rel => exact ⟨i, h, rfl, rfl, hi, by omega, by omega, by omega, HLO, Lib.hid (.inr (by rw [← HUX.out, ← HVX.out]; exact hL)), S2⟩
      | false =>
        have ea : ((m : Int)).toNat = m := by omega
        have pa : (0 : Int) ≤ (m : Int) := by omega
        have ba : (m : Int) < (N : Int) := by omega
        have ra : IntKind.i64.wrap ((m : Int)) = (m : Int) := by rw [IntKind.wrap_i64]; omega
        have ec : ((h : Int)).toNat = h := by omega
        have pc : (0 : Int) ≤ (h : Int) := by omega
        have bc : (h : Int) < (N : Int) := by omega
        have rc : IntKind.i64.wrap ((h : Int)) = (h : Int) := by rw [IntKind.wrap_i64]; omega
        have la := S1.out.ld R (by omega) Tryz.prog (m) (by omega)
        have lb := S1.out.ld R (by omega) Tryz.prog (h) (by omega)
        rw [← hu] at la
        rw [← hv] at lb
        simp only [Nat.zero_add] at la lb
        have hc := S1.out.cmp HC.out (by omega) u v
        simp only [Array.append_empty] at hc
        have hv24 : ¬ cfE u v < 0 := of_decide_eq_false ((cf_less u v).trans hL)
        have hd24 : decide (cfE u v < 0) = false := decide_eq_false hv24
        clear hu hv
        generalize encE u = cu at la hc
        generalize encE v = cv at lb hc
        go_wp2_with fail
        go_quiet_grown (first | (go_at_fn 109; refine Calls.grown_of (hc _ _)))
        have S2 := Lib.hid (S1.out.grown nq osq)
        clear la lb hc S1 ea pa ba ra ec pc bc rc
        generalize grow (wr.drewN nq) osq = w2 at S2 ⊢
        clear nq osq
        go_wp2
        go_roundg (j - (h + 1))
        case measure => omega
        case rel => exact ⟨h + 1, j, by simp, rfl, by omega, by omega, hj, by omega, Lib.hid (.inr (by rw [Nat.add_sub_cancel, ← HUX.out, ← HVX.out]; exact hL)), HHI, S2⟩
    · obtain rfl : i = j := by omega
      have hlt2 : ¬ (i : Int) < (i : Int) := by omega
      have hlo := HLO.out
      have hhi := HHI.out
      rw [HD.out, show P ++ (X ++ [y] ++ T) = P ++ X ++ [y] ++ T by simp] at hlo hhi
      obtain ⟨X1, X2, rfl, hl1, hl2⟩ := one_right hP hX hi hj HXR.out hlo hhi
      have HFIN := Lib.hid hl2
      have hd2 : d.toList = P ++ (X1 ++ (X2 ++ y :: ([] ++ T))) := by rw [HD.out]; simp
      have HD2 := Lib.hid hd2
      have hlen := hN2
      simp only [List.length_append, List.length_cons, List.length_nil] at hlen
      rw [List.length_append] at hX
      clear hlo hhi HLO HHI HD hl2 hd2 HXR HV
      go_wp2
      go_loopg [17] (m - i) (fun kx s17 wr => ∃ (q : Nat) (Xa Xb : List EvP) (dk : Array EvP), s17 = .int .i64 q ∧ i + kx = q ∧ Hid (X2 = Xa ++ Xb) ∧ i + Xa.length = q ∧ dk.size = N ∧ Hid (dk.toList = P ++ (X1 ++ (Xa ++ y :: (Xb ++ T)))) ∧ Hid (SWK encE k w0 g 0 dk wr))
      case atStart => exact ⟨m, X2, [], d, rfl, by omega, Lib.hid (by simp), by omega, hN, HD2, S1⟩
      case round =>
        clear S1 HD2
        obtain ⟨q, Xa, Xb, dk, rfl, hq, HX1, hXa, hdk, HDK, S1⟩ := hrel
        have lX := congrArg List.length HX1.out
        rw [List.length_append] at lX
        by_cases hlt : i < q
        · have hlt3 : (i : Int) < (q : Int) := by omega
          obtain ⟨Xa', z, rfl⟩ := cut_last Xa (by omega)
          rw [List.length_append, List.length_singleton] at lX hXa
          have hd3 : dk.toList = (P ++ (X1 ++ Xa')) ++ z :: ([] ++ y :: (Xb ++ T)) := by rw [HDK.out]; simp
          obtain ⟨-, k1, p1, p2⟩ := swp_parts (p := q - 1) (q := q) hd3 (by simp only [List.length_append]; omega) (by simp; omega)
          have K1 := Lib.hid k1
          clear k1 hd3 HDK
          have eq1 : (q : Int) - 1 = ((q - 1 : Nat) : Int) := by omega
          have ea44 : ((q : Int)).toNat = q := by omega
          have pa44 : (0 : Int) ≤ (q : Int) := by omega
          have ba44 : (q : Int) < (N : Int) := by omega
          have ra44 : IntKind.i64.wrap ((q : Int)) = (q : Int) := by rw [IntKind.wrap_i64]; omega
          have ec44 : (((q - 1 : Nat) : Int)).toNat = q - 1 := by omega
          have pc44 : (0 : Int) ≤ ((q - 1 : Nat) : Int) := by omega
          have bc44 : ((q - 1 : Nat) : Int) < (N : Int) := by omega
          have rc44 : IntKind.i64.wrap (((q - 1 : Nat) : Int)) = ((q - 1 : Nat) : Int) := by rw [IntKind.wrap_i64]; omega
          go_wp2_with fail
          have S2 := Lib.hid (S1.out.swapped R (q) (q - 1) (by omega) (by omega))
          have l44a := S1.out.ld1 R (by omega) Tryz.prog (q) (by omega)
          have l44b := S1.out.ld1 R (by omega) Tryz.prog (q - 1) (by omega)
          have s44a := S1.out.st1 R (by omega) Tryz.prog (q) (by omega) dk[q - 1]!
          have s44b := S1.out.st2 R (by omega) Tryz.prog (q) (q - 1) (by omega) (by omega) dk[q - 1]! dk[q]!
          have n44a : (encE dk[q]!).length = k := R.hk _
          have n44b : (encE dk[q - 1]!).length = k := R.hk _
          generalize encE dk[q]! = cI44 at S2 l44a s44b n44a
          generalize encE dk[q - 1]! = cJ44 at S2 l44b s44a s44b n44b
          clear S1
          simp only [Nat.zero_add] at S2 l44a l44b s44a s44b
          go_wp2_with fail
          go_big_region_o
          clear l44a l44b s44a s44b
          generalize (wr.drew.setCells g ((q) * k) cJ44).setCells g ((q - 1) * k) cI44 = w2 at S2 ⊢
          have hsz2 : (swp dk (q) (q - 1)).size = N := by rw [size_swp]; exact hdk
          clear ea44 pa44 ba44 ra44 ec44 pc44 bc44 rc44 n44a n44b
          go_wp2
          go_roundg (q - 1 - i)
          case measure => omega
          case rel => exact ⟨q - 1, Xa', z :: Xb, _, by first | rfl | simp, by omega, Lib.hid (by rw [HX1.out]; simp), by omega, hsz2, Lib.hid (by rw [K1.out]; simp), S2⟩
        · have hlt3 : ¬ (i : Int) < (q : Int) := by omega
          obtain rfl : Xa = [] := List.length_eq_zero_iff.1 (by omega)
          have hfin := HDK.out
          have e1 := HX1.out
          rw [List.nil_append] at e1
          rw [← e1, List.nil_append] at hfin
          clear e1
          have HQ := Lib.hid hfin
          have HQ2 := HQ
          clear hfin
          go_wp2
          refine bodyPost_ret (results_none rfl _ _ _) rfl ?_
          exact ⟨rfl, dk, by have hq := HFIN.out; rw [HQ.out]; simp only [List.singleton_append, List.append_assoc] at hq ⊢; rw [← hq]; simp only [List.append_assoc, List.cons_append], S1.out⟩
set_option maxHeartbeats 40000000 in
theorem sym_main (k : Nat) (hk : k = 11) (g cap N a m b : Nat) (d0 : Array EvP) (w0 : World) (R : RowK encE k w0 g 0 d0) (hs : d0.size = N) (hsz : N ≤ 1000000) (ham : a + 1 < m) (hmb : m + 1 < b) (IH : ∀ a' m' b', a' < m' → m' < b' → b' - a' < b - a → SymC k g cap N w0 a' m' b') : SymC k g cap N w0 a m b := by
  intro P X Y T d w hd hP hX hYb hrX hrY hN S
  have mixed : Tryz.prog.follows .mixedOrders = true := by kernel_rfl
  have aE := Tryz.isAgg43
  have zE : ∀ w, (Go.sizeOf 43).run Tryz.prog w = .ok k w := fun w => by rw [hk]; exact Tryz.sizeOf43 w
  have HC : Hid (CmpLays Tryz.prog 109 #[] encE k cfE g 0 d0.size w0) := Lib.hid (by rw [hk]; exact cmp_lays _ _ _ _)
  have hN2 := hN
  rw [swk_size (w0 := w0) (w := w) (g := g) hd] at hN2
  simp only [List.length_append] at hN2
  have eg := order_enters
  have S0 := Lib.hid S
  have HD := Lib.hid hd
  have HXR := Lib.hid hrX
  have HYR := Lib.hid hrY
  have HIH := Lib.hid IH
  have HROT : Hid (∀ (a m b : Nat) (P X Y T : List EvP) (d : Array EvP) (w : World), d.toList = P ++ (X ++ (Y ++ T)) → P.length = a → a + X.length = m → m + Y.length = b → 0 < X.length → 0 < Y.length → d.size = N → SWK encE k w0 g 0 d w → Calls Tryz.prog 171 #[.slice (some ⟨g, 0, none⟩) N cap, .int .i64 a, .int .i64 m, .int .i64 b, .func (.func 109) #[] #[]] w fun e w' => e = .returned (.tuple #[]) ∧ ∃ d' : Array EvP, d'.toList = P ++ (Y ++ (X ++ T)) ∧ SWK encE k w0 g 0 d' w') := Lib.hid (fun a m b P X Y T d w h1 h2 h3 h4 h5 h6 h7 h8 => rotate_any k hk g cap a m b N P X Y T d0 d w0 w R hs h1 h2 h3 h4 h5 h6 h7 hsz h8)
  have em : ¬ (m : Int) - (a : Int) = 1 := by omega
  have em1 : ((m : Int) - (a : Int) == 1) = false := by simpa using em
  have em2 : ¬ (b : Int) - (m : Int) = 1 := by omega
  have em3 : ((b : Int) - (m : Int) == 1) = false := by simpa using em2
  obtain ⟨mid, hmid⟩ : ∃ x, x = (a + b) / 2 := ⟨_, rfl⟩
  have emid : ((a : Int) + (b : Int)) / 2 = (mid : Int) := by omega
  obtain ⟨n, hn⟩ : ∃ x, mid + m = x := ⟨_, rfl⟩
  have en : (mid : Int) + (m : Int) = (n : Int) := by omega
  obtain ⟨p, hp⟩ : ∃ x, n - 1 = x := ⟨_, rfl⟩
  have ep : (n : Int) - 1 = (p : Int) := by omega
  have HMID := Lib.hid hmid
  have HNN := Lib.hid hn
  have HPP := Lib.hid hp
  have hb1 : a < mid ∧ mid < b ∧ a + b ≤ 2 * mid + 1 ∧ 2 * mid ≤ a + b := by omega
  clear S hd hk hrX hrY IH hmid hn hp
  by_cases hc : mid < m
  · have hc1 : (mid : Int) < (m : Int) := by omega
    obtain ⟨s0, hs0⟩ : ∃ x, n - b = x := ⟨_, rfl⟩
    have es0 : (n : Int) - (b : Int) = (s0 : Int) := by have := HNN.out; omega
    obtain ⟨r0, hr0⟩ : ∃ x, mid = x := ⟨_, rfl⟩
    have HCC : Hid (mid < m ∧ s0 = n - b ∧ r0 = mid ∨ m ≤ mid ∧ s0 = a ∧ r0 = m) := Lib.hid (by have := HNN.out; omega)
    have HS0 := Lib.hid hs0
    have HR0 := Lib.hid hr0
    have hbd : a ≤ s0 ∧ s0 ≤ r0 ∧ r0 ≤ m ∧ p + 1 = n ∧ n ≤ s0 + b ∧ r0 + m ≤ n := by have := HNN.out; have := HPP.out; omega
    clear hs0 hr0
    have hrm : r0 = mid := HR0.out.symm
    go_enter Tryz.func156, Tryz.ntmps156
    go_wp2
    go_loopg [20, 21] (r0 - s0) (fun kx s20 s21 wr => ∃ (st r : Nat), s20 = .int .i64 st ∧ s21 = .int .i64 r ∧ s0 ≤ st ∧ st ≤ r ∧ r ≤ r0 ∧ r - st ≤ kx ∧ Hid (st = s0 ∨ lessE (atE d.toList (p - (st - 1))) (atE d.toList (st - 1)) = false) ∧ Hid (r = r0 ∨ lessE (atE d.toList (p - r)) (atE d.toList r) = true) ∧ Hid (SWK encE k w0 g 0 d wr))
    case atStart => exact ⟨s0, mid, rfl, rfl, by have := HS0.out; omega, by have := HS0.out; have := HR0.out; omega, by have := HR0.out; omega, by have := HS0.out; have := HR0.out; omega, .inl (by have := HS0.out; omega), .inl (by have := HR0.out; omega), S0⟩
    case round =>
      clear S0
      obtain ⟨st, r, rfl, rfl, hi, hij, hj, hkx, HLO, HHI, S1⟩ := hrel
      by_cases hlt : st < r
      · have hlt2 : (st : Int) < (r : Int) := by omega
        obtain ⟨h, hh⟩ : ∃ h, h = (st + r) / 2 := ⟨_, rfl⟩
        have eh : ((st : Int) + (r : Int)) / 2 = (h : Int) := by omega
        have hh1 : st ≤ h ∧ h < r := by omega
        clear hh
        obtain ⟨z, hz⟩ : ∃ z, p - h = z := ⟨_, rfl⟩
        have ez : (p : Int) - (h : Int) = (z : Int) := by omega
        have HZZ := Lib.hid hz
        have hzb : z < N := by omega
        clear hz
        obtain ⟨u, hu⟩ : ∃ x, x = d[z]! := ⟨_, rfl⟩
        obtain ⟨v, hv⟩ : ∃ x, x = d[h]! := ⟨_, rfl⟩
        have HUX := Lib.hid (hu.trans (at_list d (by omega)))
        have HVX := Lib.hid (hv.trans (at_list d (by omega)))
        cases hL : lessE u v with
        | true =>
          have ea : ((z : Int)).toNat = z := by omega
          have pa : (0 : Int) ≤ (z : Int) := by omega
          have ba : (z : Int) < (N : Int) := by omega
          have ra : IntKind.i64.wrap ((z : Int)) = (z : Int) := by rw [IntKind.wrap_i64]; omega
          have ec : ((h : Int)).toNat = h := by omega
          have pc : (0 : Int) ≤ (h : Int) := by omega
          have bc : (h : Int) < (N : Int) := by omega
          have rc : IntKind.i64.wrap ((h : Int)) = (h : Int) := by rw [IntKind.wrap_i64]; omega
          have la := S1.out.ld R (by omega) Tryz.prog (z) (by omega)
          have lb := S1.out.ld R (by omega) Tryz.prog (h) (by omega)
          rw [← hu] at la
          rw [← hv] at lb
          simp only [Nat.zero_add] at la lb
          have hc := S1.out.cmp HC.out (by omega) u v
          simp only [Array.append_empty] at hc
          have hv24 : cfE u v < 0 := of_decide_eq_true ((cf_less u v).trans hL)
          have hd24 : decide (cfE u v < 0) = true := decide_eq_true hv24
          clear hu hv
          generalize encE u = cu at la hc
          generalize encE v = cv at lb hc
          go_wp2_with fail
          go_quiet_grown (first | (go_at_fn 109; refine Calls.grown_of (hc _ _)))
          have S2 := Lib.hid (S1.out.grown nq osq)
          clear la lb hc S1 ea pa ba ra ec pc bc rc
          generalize grow (wr.drewN nq) osq = w2 at S2 ⊢
          clear nq osq
          go_wp2
          go_roundg (h - st)
          case measure => omega
          case rel => exact ⟨st, h, rfl, rfl, hi, by omega, by omega, by omega, HLO, Lib.hid (.inr (by rw [HZZ.out, ← HUX.out, ← HVX.out]; exact hL)), S2⟩
        | false =>
          have ea : ((z : Int)).toNat = z := by omega
          have pa : (0 : Int) ≤ (z : Int) := by omega
          have ba : (z : Int) < (N : Int) := by omega
          have ra : IntKind.i64.wrap ((z : Int)) = (z : Int) := by rw [IntKind.wrap_i64]; omega
          have ec : ((h : Int)).toNat = h := by omega
          have pc : (0 : Int) ≤ (h : Int) := by omega
          have bc : (h : Int) < (N : Int) := by omega
          have rc : IntKind.i64.wrap ((h : Int)) = (h : Int) := by rw [IntKind.wrap_i64]; omega
          have la := S1.out.ld R (by omega) Tryz.prog (z) (by omega)
          have lb := S1.out.ld R (by omega) Tryz.prog (h) (by omega)
          rw [← hu] at la
          rw [← hv] at lb
          simp only [Nat.zero_add] at la lb
          have hc := S1.out.cmp HC.out (by omega) u v
          simp only [Array.append_empty] at hc
          have hv24 : ¬ cfE u v < 0 := of_decide_eq_false ((cf_less u v).trans hL)
          have hd24 : decide (cfE u v < 0) = false := decide_eq_false hv24
          clear hu hv
          generalize encE u = cu at la hc
          generalize encE v = cv at lb hc
          go_wp2_with fail
          go_quiet_grown (first | (go_at_fn 109; refine Calls.grown_of (hc _ _)))
          have S2 := Lib.hid (S1.out.grown nq osq)
          clear la lb hc S1 ea pa ba ra ec pc bc rc
          generalize grow (wr.drewN nq) osq = w2 at S2 ⊢
          clear nq osq
          go_wp2
          go_roundg (r - (h + 1))
          case measure => omega
          case rel => exact ⟨h + 1, r, by simp, rfl, by omega, by omega, hj, by omega, Lib.hid (.inr (by rw [Nat.add_sub_cancel, HZZ.out, ← HUX.out, ← HVX.out]; exact hL)), HHI, S2⟩
      · obtain rfl : st = r := by omega
        have hlt2 : ¬ (st : Int) < (st : Int) := by omega
        have hlo := HLO.out
        have hhi := HHI.out
        rw [HD.out, show P ++ (X ++ Y ++ T) = P ++ X ++ Y ++ T by simp, show p = n - 1 from HPP.out.symm] at hlo hhi
        obtain ⟨X1, X2, Y1, Y2, hX12, hY12, x1, y1, b1, b2, b3, b4, hA, hB⟩ := sym_cut hP hX hYb (by omega) (by omega) HMID.out HNN.out.symm HCC.out hi hj HXR.out HYR.out hlo hhi
        subst hX12 hY12
        have HMC := Lib.hid (merge_cut HXR.out HYR.out hA hB)
        have HX1 := Lib.hid ((risen_append _ _).1 HXR.out)
        have HY1 := Lib.hid ((risen_append _ _).1 HYR.out)
        obtain ⟨en', hen⟩ : ∃ x, n - st = x := ⟨_, rfl⟩
        have een : (n : Int) - (st : Int) = (en' : Int) := by omega
        rw [hen] at y1 b3 b4
        rw [List.length_append] at hX hYb
        have hmm : st + en' = mid + m := by have := HNN.out; omega
        clear hlo hhi HLO HHI hA hB HXR HYR hlt hij hkx HMID HNN HPP HCC HS0 HR0 hen
        have HD1 : Hid (d.toList = P ++ ((X1 ++ X2) ++ (Y1 ++ Y2) ++ T)) := HD
        have hlen := hN2
        simp only [List.length_append] at hlen
        clear HD
        by_cases c1 : st < m
        rotate_left
        · have c1i : ¬ (st : Int) < (m : Int) := by omega
          obtain rfl : X2 = [] := List.length_eq_zero_iff.1 (by omega)
          have HL : Hid (d.toList = P ++ ((X1 ++ Y1) ++ (([] ++ Y2) ++ T))) := Lib.hid (by rw [HD1.out]; simp)
          clear HD1
          by_cases c3 : a < st
          rotate_left
          · have c3i : ¬ (a : Int) < (st : Int) := by omega
            have ex : X1 = [] := List.length_eq_zero_iff.1 (by omega)
            have HS3 : Hid (X1 ++ Y1 = sortE (X1 ++ Y1)) := Lib.hid (by rw [ex, List.nil_append, ev_sort_self]; exact HY1.out.1)
            clear ex
            have HM : Hid (d.toList = P ++ (sortE (X1 ++ Y1) ++ (([] ++ Y2) ++ T))) := Lib.hid (by rw [← HS3.out]; exact HL.out)
            clear HL HS3
            by_cases c5 : mid < en'
            rotate_left
            · have c5i : ¬ (mid : Int) < (en' : Int) := by omega
              have HS5 : Hid ([] ++ Y2 = sortE ([] ++ Y2)) := Lib.hid (by rw [List.nil_append, ev_sort_self]; exact HY1.out.2.1)
              go_wp2
              go_end0
              exact ⟨rfl, d, by have hq := HMC.out; have hm := HM.out; rw [HS5.out] at hm; rw [hm]; simp only [List.append_nil, List.nil_append, List.append_assoc] at hq ⊢; rw [← hq]; simp only [List.append_assoc], S1.out⟩
            have c5e : False := by simp only [List.length_nil] at *; omega
            exact c5e.elim
          have c3i : (a : Int) < (st : Int) := by omega
          by_cases c4 : st < mid
          rotate_left
          · have c4i : ¬ (st : Int) < (mid : Int) := by omega
            have ey : Y1 = [] := List.length_eq_zero_iff.1 (by omega)
            have HS3 : Hid (X1 ++ Y1 = sortE (X1 ++ Y1)) := Lib.hid (by rw [ey, List.append_nil, ev_sort_self]; exact HX1.out.1)
            clear ey
            have HM : Hid (d.toList = P ++ (sortE (X1 ++ Y1) ++ (([] ++ Y2) ++ T))) := Lib.hid (by rw [← HS3.out]; exact HL.out)
            clear HL HS3
            by_cases c5 : mid < en'
            rotate_left
            · have c5i : ¬ (mid : Int) < (en' : Int) := by omega
              have HS5 : Hid ([] ++ Y2 = sortE ([] ++ Y2)) := Lib.hid (by rw [List.nil_append, ev_sort_self]; exact HY1.out.2.1)
              go_wp2
              go_end0
              exact ⟨rfl, d, by have hq := HMC.out; have hm := HM.out; rw [HS5.out] at hm; rw [hm]; simp only [List.append_nil, List.nil_append, List.append_assoc] at hq ⊢; rw [← hq]; simp only [List.append_assoc], S1.out⟩
            have c5e : False := by simp only [List.length_nil] at *; omega
            exact c5e.elim
          · have c4i : (st : Int) < (mid : Int) := by omega
            have hcall := HIH.out a st mid c3 c4 (by omega) P X1 Y1 (([] ++ Y2) ++ T) d wr (by rw [HL.out]) hP (by omega) (by omega) HX1.out.1 HY1.out.1 hN S1.out
            have HCL := Lib.hid hcall
            clear hcall S1
            go_wp2_with fail
            refine HCL.out.mono ?_
            rintro e w7 ⟨rfl, d7, h7, S7⟩
            have hN7 : d7.size = N := by rw [swk_size (w0 := w0) (w := w) (g := g) h7]; simp only [List.length_append, sortE_len, List.length_nil]; omega
            have HM : Hid (d7.toList = P ++ (sortE (X1 ++ Y1) ++ (([] ++ Y2) ++ T))) := Lib.hid h7
            have S8 := Lib.hid S7
            clear HCL h7 S7 HL
            by_cases c5 : mid < en'
            rotate_left
            · have c5i : ¬ (mid : Int) < (en' : Int) := by omega
              have HS5 : Hid ([] ++ Y2 = sortE ([] ++ Y2)) := Lib.hid (by rw [List.nil_append, ev_sort_self]; exact HY1.out.2.1)
              go_wp2
              go_end0
              exact ⟨rfl, d7, by have hq := HMC.out; have hm := HM.out; rw [HS5.out] at hm; rw [hm]; simp only [List.append_nil, List.nil_append, List.append_assoc] at hq ⊢; rw [← hq]; simp only [List.append_assoc], S8.out⟩
            have c5e : False := by simp only [List.length_nil] at *; omega
            exact c5e.elim
        have c1i : (st : Int) < (m : Int) := by omega
        by_cases c2 : m < en'
        rotate_left
        · have c2i : ¬ (m : Int) < (en' : Int) := by omega
          obtain rfl : Y1 = [] := List.length_eq_zero_iff.1 (by omega)
          have HL : Hid (d.toList = P ++ ((X1 ++ []) ++ ((X2 ++ Y2) ++ T))) := Lib.hid (by rw [HD1.out]; simp)
          clear HD1
          by_cases c3 : a < st
          rotate_left
          · have c3i : ¬ (a : Int) < (st : Int) := by omega
            have ex : X1 = [] := List.length_eq_zero_iff.1 (by omega)
            have HS3 : Hid (X1 ++ [] = sortE (X1 ++ [])) := Lib.hid (by rw [ex, List.nil_append, ev_sort_self]; trivial)
            clear ex
            have HM : Hid (d.toList = P ++ (sortE (X1 ++ []) ++ ((X2 ++ Y2) ++ T))) := Lib.hid (by rw [← HS3.out]; exact HL.out)
            clear HL HS3
            by_cases c5 : mid < en'
            rotate_left
            · have c5i : ¬ (mid : Int) < (en' : Int) := by omega
              have ex : X2 = [] := List.length_eq_zero_iff.1 (by omega)
              have HS5 : Hid (X2 ++ Y2 = sortE (X2 ++ Y2)) := Lib.hid (by rw [ex, List.nil_append, ev_sort_self]; exact HY1.out.2.1)
              clear ex
              go_wp2
              go_end0
              exact ⟨rfl, d, by have hq := HMC.out; have hm := HM.out; rw [HS5.out] at hm; rw [hm]; simp only [List.append_nil, List.nil_append, List.append_assoc] at hq ⊢; rw [← hq]; simp only [List.append_assoc], S1.out⟩
            have c5i : (mid : Int) < (en' : Int) := by omega
            by_cases c6 : en' < b
            rotate_left
            · have c6i : ¬ (en' : Int) < (b : Int) := by omega
              have ey : Y2 = [] := List.length_eq_zero_iff.1 (by omega)
              have HS5 : Hid (X2 ++ Y2 = sortE (X2 ++ Y2)) := Lib.hid (by rw [ey, List.append_nil, ev_sort_self]; exact HX1.out.2.1)
              clear ey
              go_wp2
              go_end0
              exact ⟨rfl, d, by have hq := HMC.out; have hm := HM.out; rw [HS5.out] at hm; rw [hm]; simp only [List.append_nil, List.nil_append, List.append_assoc] at hq ⊢; rw [← hq]; simp only [List.append_assoc], S1.out⟩
            · have c6i : (en' : Int) < (b : Int) := by omega
              have hcall := HIH.out mid en' b c5 c6 (by omega) (P ++ sortE (X1 ++ [])) X2 Y2 T d wr (by rw [HM.out]; simp) (by simp only [List.length_append, sortE_len, List.length_nil]; omega) (by omega) (by omega) HX1.out.2.1 HY1.out.2.1 hN S1.out
              have HCL := Lib.hid hcall
              clear hcall S1
              go_wp2_with fail
              refine HCL.out.mono ?_
              rintro e w9 ⟨rfl, d9, h9, S9⟩
              clear HCL
              go_wp2
              go_end0
              exact ⟨rfl, d9, by have hq := HMC.out; rw [h9]; simp only [List.append_nil, List.nil_append, List.append_assoc] at hq ⊢; rw [← hq]; simp only [List.append_assoc], S9⟩
          have c3i : (a : Int) < (st : Int) := by omega
          have c4i : ¬ (st : Int) < (mid : Int) := by simp only [List.length_nil] at *; omega
          have HS3 : Hid (X1 ++ [] = sortE (X1 ++ [])) := Lib.hid (by rw [List.append_nil, ev_sort_self]; exact HX1.out.1)
          have HM : Hid (d.toList = P ++ (sortE (X1 ++ []) ++ ((X2 ++ Y2) ++ T))) := Lib.hid (by rw [← HS3.out]; exact HL.out)
          clear HL HS3
          by_cases c5 : mid < en'
          rotate_left
          · have c5i : ¬ (mid : Int) < (en' : Int) := by omega
            have ex : X2 = [] := List.length_eq_zero_iff.1 (by omega)
            have HS5 : Hid (X2 ++ Y2 = sortE (X2 ++ Y2)) := Lib.hid (by rw [ex, List.nil_append, ev_sort_self]; exact HY1.out.2.1)
            clear ex
            go_wp2
            go_end0
            exact ⟨rfl, d, by have hq := HMC.out; have hm := HM.out; rw [HS5.out] at hm; rw [hm]; simp only [List.append_nil, List.nil_append, List.append_assoc] at hq ⊢; rw [← hq]; simp only [List.append_assoc], S1.out⟩
          have c5i : (mid : Int) < (en' : Int) := by omega
          by_cases c6 : en' < b
          rotate_left
          · have c6i : ¬ (en' : Int) < (b : Int) := by omega
            have ey : Y2 = [] := List.length_eq_zero_iff.1 (by omega)
            have HS5 : Hid (X2 ++ Y2 = sortE (X2 ++ Y2)) := Lib.hid (by rw [ey, List.append_nil, ev_sort_self]; exact HX1.out.2.1)
            clear ey
            go_wp2
            go_end0
            exact ⟨rfl, d, by have hq := HMC.out; have hm := HM.out; rw [HS5.out] at hm; rw [hm]; simp only [List.append_nil, List.nil_append, List.append_assoc] at hq ⊢; rw [← hq]; simp only [List.append_assoc], S1.out⟩
          · have c6i : (en' : Int) < (b : Int) := by omega
            have hcall := HIH.out mid en' b c5 c6 (by omega) (P ++ sortE (X1 ++ [])) X2 Y2 T d wr (by rw [HM.out]; simp) (by simp only [List.length_append, sortE_len, List.length_nil]; omega) (by omega) (by omega) HX1.out.2.1 HY1.out.2.1 hN S1.out
            have HCL := Lib.hid hcall
            clear hcall S1
            go_wp2_with fail
            refine HCL.out.mono ?_
            rintro e w9 ⟨rfl, d9, h9, S9⟩
            clear HCL
            go_wp2
            go_end0
            exact ⟨rfl, d9, by have hq := HMC.out; rw [h9]; simp only [List.append_nil, List.nil_append, List.append_assoc] at hq ⊢; rw [← hq]; simp only [List.append_assoc], S9⟩
        · have c2i : (m : Int) < (en' : Int) := by omega
          have hcall := HROT.out st m en' (P ++ X1) X2 Y1 (Y2 ++ T) d wr (by rw [HD1.out]; simp) (by rw [List.length_append]; omega) (by omega) (by omega) (by omega) (by omega) hN S1.out
          have HCL := Lib.hid hcall
          clear hcall HD1 S1
          go_wp2_with fail
          refine HCL.out.mono ?_
          rintro e w5 ⟨rfl, d5, h5, S5⟩
          have HL : Hid (d5.toList = P ++ ((X1 ++ Y1) ++ ((X2 ++ Y2) ++ T))) := Lib.hid (by rw [h5]; simp)
          have hN5 : d5.size = N := by rw [swk_size (w0 := w0) (w := w) (g := g) h5]; simp only [List.length_append]; omega
          have S6 := Lib.hid S5
          clear HCL h5 S5
          by_cases c3 : a < st
          rotate_left
          · have c3i : ¬ (a : Int) < (st : Int) := by omega
            have ex : X1 = [] := List.length_eq_zero_iff.1 (by omega)
            have HS3 : Hid (X1 ++ Y1 = sortE (X1 ++ Y1)) := Lib.hid (by rw [ex, List.nil_append, ev_sort_self]; exact HY1.out.1)
            clear ex
            have HM : Hid (d5.toList = P ++ (sortE (X1 ++ Y1) ++ ((X2 ++ Y2) ++ T))) := Lib.hid (by rw [← HS3.out]; exact HL.out)
            clear HL HS3
            by_cases c5 : mid < en'
            rotate_left
            · have c5i : ¬ (mid : Int) < (en' : Int) := by omega
              have ex : X2 = [] := List.length_eq_zero_iff.1 (by omega)
              have HS5 : Hid (X2 ++ Y2 = sortE (X2 ++ Y2)) := Lib.hid (by rw [ex, List.nil_append, ev_sort_self]; exact HY1.out.2.1)
              clear ex
              go_wp2
              go_end0
              exact ⟨rfl, d5, by have hq := HMC.out; have hm := HM.out; rw [HS5.out] at hm; rw [hm]; simp only [List.append_nil, List.nil_append, List.append_assoc] at hq ⊢; rw [← hq]; simp only [List.append_assoc], S6.out⟩
            have c5i : (mid : Int) < (en' : Int) := by omega
            by_cases c6 : en' < b
            rotate_left
            · have c6i : ¬ (en' : Int) < (b : Int) := by omega
              have ey : Y2 = [] := List.length_eq_zero_iff.1 (by omega)
              have HS5 : Hid (X2 ++ Y2 = sortE (X2 ++ Y2)) := Lib.hid (by rw [ey, List.append_nil, ev_sort_self]; exact HX1.out.2.1)
              clear ey
              go_wp2
              go_end0
              exact ⟨rfl, d5, by have hq := HMC.out; have hm := HM.out; rw [HS5.out] at hm; rw [hm]; simp only [List.append_nil, List.nil_append, List.append_assoc] at hq ⊢; rw [← hq]; simp only [List.append_assoc], S6.out⟩
            · have c6i : (en' : Int) < (b : Int) := by omega
              have hcall := HIH.out mid en' b c5 c6 (by omega) (P ++ sortE (X1 ++ Y1)) X2 Y2 T d5 w5 (by rw [HM.out]; simp) (by simp only [List.length_append, sortE_len]; omega) (by omega) (by omega) HX1.out.2.1 HY1.out.2.1 hN5 S6.out
              have HCL := Lib.hid hcall
              clear hcall S6
              go_wp2_with fail
              refine HCL.out.mono ?_
              rintro e w9 ⟨rfl, d9, h9, S9⟩
              clear HCL
              go_wp2
              go_end0
              exact ⟨rfl, d9, by have hq := HMC.out; rw [h9]; simp only [List.append_nil, List.nil_append, List.append_assoc] at hq ⊢; rw [← hq]; simp only [List.append_assoc], S9⟩
          have c3i : (a : Int) < (st : Int) := by omega
          by_cases c4 : st < mid
          rotate_left
          · have c4i : ¬ (st : Int) < (mid : Int) := by omega
            have ey : Y1 = [] := List.length_eq_zero_iff.1 (by omega)
            have HS3 : Hid (X1 ++ Y1 = sortE (X1 ++ Y1)) := Lib.hid (by rw [ey, List.append_nil, ev_sort_self]; exact HX1.out.1)
            clear ey
            have HM : Hid (d5.toList = P ++ (sortE (X1 ++ Y1) ++ ((X2 ++ Y2) ++ T))) := Lib.hid (by rw [← HS3.out]; exact HL.out)
            clear HL HS3
            by_cases c5 : mid < en'
            rotate_left
            · have c5i : ¬ (mid : Int) < (en' : Int) := by omega
              have ex : X2 = [] := List.length_eq_zero_iff.1 (by omega)
              have HS5 : Hid (X2 ++ Y2 = sortE (X2 ++ Y2)) := Lib.hid (by rw [ex, List.nil_append, ev_sort_self]; exact HY1.out.2.1)
              clear ex
              go_wp2
              go_end0
              exact ⟨rfl, d5, by have hq := HMC.out; have hm := HM.out; rw [HS5.out] at hm; rw [hm]; simp only [List.append_nil, List.nil_append, List.append_assoc] at hq ⊢; rw [← hq]; simp only [List.append_assoc], S6.out⟩
            have c5i : (mid : Int) < (en' : Int) := by omega
            by_cases c6 : en' < b
            rotate_left
            · have c6i : ¬ (en' : Int) < (b : Int) := by omega
              have ey : Y2 = [] := List.length_eq_zero_iff.1 (by omega)
              have HS5 : Hid (X2 ++ Y2 = sortE (X2 ++ Y2)) := Lib.hid (by rw [ey, List.append_nil, ev_sort_self]; exact HX1.out.2.1)
              clear ey
              go_wp2
              go_end0
              exact ⟨rfl, d5, by have hq := HMC.out; have hm := HM.out; rw [HS5.out] at hm; rw [hm]; simp only [List.append_nil, List.nil_append, List.append_assoc] at hq ⊢; rw [← hq]; simp only [List.append_assoc], S6.out⟩
            · have c6i : (en' : Int) < (b : Int) := by omega
              have hcall := HIH.out mid en' b c5 c6 (by omega) (P ++ sortE (X1 ++ Y1)) X2 Y2 T d5 w5 (by rw [HM.out]; simp) (by simp only [List.length_append, sortE_len]; omega) (by omega) (by omega) HX1.out.2.1 HY1.out.2.1 hN5 S6.out
              have HCL := Lib.hid hcall
              clear hcall S6
              go_wp2_with fail
              refine HCL.out.mono ?_
              rintro e w9 ⟨rfl, d9, h9, S9⟩
              clear HCL
              go_wp2
              go_end0
              exact ⟨rfl, d9, by have hq := HMC.out; rw [h9]; simp only [List.append_nil, List.nil_append, List.append_assoc] at hq ⊢; rw [← hq]; simp only [List.append_assoc], S9⟩
          · have c4i : (st : Int) < (mid : Int) := by omega
            have hcall := HIH.out a st mid c3 c4 (by omega) P X1 Y1 ((X2 ++ Y2) ++ T) d5 w5 (by rw [HL.out]) hP (by omega) (by omega) HX1.out.1 HY1.out.1 hN5 S6.out
            have HCL := Lib.hid hcall
            clear hcall S6
            go_wp2_with fail
            refine HCL.out.mono ?_
            rintro e w7 ⟨rfl, d7, h7, S7⟩
            have hN7 : d7.size = N := by rw [swk_size (w0 := w0) (w := w) (g := g) h7]; simp only [List.length_append, sortE_len]; omega
            have HM : Hid (d7.toList = P ++ (sortE (X1 ++ Y1) ++ ((X2 ++ Y2) ++ T))) := Lib.hid h7
            have S8 := Lib.hid S7
            clear HCL h7 S7 HL
            by_cases c5 : mid < en'
            rotate_left
            · have c5i : ¬ (mid : Int) < (en' : Int) := by omega
              have ex : X2 = [] := List.length_eq_zero_iff.1 (by omega)
              have HS5 : Hid (X2 ++ Y2 = sortE (X2 ++ Y2)) := Lib.hid (by rw [ex, List.nil_append, ev_sort_self]; exact HY1.out.2.1)
              clear ex
              go_wp2
              go_end0
              exact ⟨rfl, d7, by have hq := HMC.out; have hm := HM.out; rw [HS5.out] at hm; rw [hm]; simp only [List.append_nil, List.nil_append, List.append_assoc] at hq ⊢; rw [← hq]; simp only [List.append_assoc], S8.out⟩
            have c5i : (mid : Int) < (en' : Int) := by omega
            by_cases c6 : en' < b
            rotate_left
            · have c6i : ¬ (en' : Int) < (b : Int) := by omega
              have ey : Y2 = [] := List.length_eq_zero_iff.1 (by omega)
              have HS5 : Hid (X2 ++ Y2 = sortE (X2 ++ Y2)) := Lib.hid (by rw [ey, List.append_nil, ev_sort_self]; exact HX1.out.2.1)
              clear ey
              go_wp2
              go_end0
              exact ⟨rfl, d7, by have hq := HMC.out; have hm := HM.out; rw [HS5.out] at hm; rw [hm]; simp only [List.append_nil, List.nil_append, List.append_assoc] at hq ⊢; rw [← hq]; simp only [List.append_assoc], S8.out⟩
            · have c6i : (en' : Int) < (b : Int) := by omega
              have hcall := HIH.out mid en' b c5 c6 (by omega) (P ++ sortE (X1 ++ Y1)) X2 Y2 T d7 w7 (by rw [HM.out]; simp) (by simp only [List.length_append, sortE_len]; omega) (by omega) (by omega) HX1.out.2.1 HY1.out.2.1 hN7 S8.out
              have HCL := Lib.hid hcall
              clear hcall S8
              go_wp2_with fail
              refine HCL.out.mono ?_
              rintro e w9 ⟨rfl, d9, h9, S9⟩
              clear HCL
              go_wp2
              go_end0
              exact ⟨rfl, d9, by have hq := HMC.out; rw [h9]; simp only [List.append_nil, List.nil_append, List.append_assoc] at hq ⊢; rw [← hq]; simp only [List.append_assoc], S9⟩
  · have hc1 : ¬ (mid : Int) < (m : Int) := by omega
    obtain ⟨s0, hs0⟩ : ∃ x, a = x := ⟨_, rfl⟩
    obtain ⟨r0, hr0⟩ : ∃ x, m = x := ⟨_, rfl⟩
    have HCC : Hid (mid < m ∧ s0 = n - b ∧ r0 = mid ∨ m ≤ mid ∧ s0 = a ∧ r0 = m) := Lib.hid (by have := HNN.out; omega)
    have HS0 := Lib.hid hs0
    have HR0 := Lib.hid hr0
    have hbd : a ≤ s0 ∧ s0 ≤ r0 ∧ r0 ≤ m ∧ p + 1 = n ∧ n ≤ s0 + b ∧ r0 + m ≤ n := by have := HNN.out; have := HPP.out; omega
    clear hs0 hr0
    go_enter Tryz.func156, Tryz.ntmps156
    go_wp2
    go_loopg [20, 21] (r0 - s0) (fun kx s20 s21 wr => ∃ (st r : Nat), s20 = .int .i64 st ∧ s21 = .int .i64 r ∧ s0 ≤ st ∧ st ≤ r ∧ r ≤ r0 ∧ r - st ≤ kx ∧ Hid (st = s0 ∨ lessE (atE d.toList (p - (st - 1))) (atE d.toList (st - 1)) = false) ∧ Hid (r = r0 ∨ lessE (atE d.toList (p - r)) (atE d.toList r) = true) ∧ Hid (SWK encE k w0 g 0 d wr))
    case atStart => exact ⟨a, m, rfl, rfl, by have := HS0.out; omega, by have := HS0.out; have := HR0.out; omega, by have := HR0.out; omega, by have := HS0.out; have := HR0.out; omega, .inl (by have := HS0.out; omega), .inl (by have := HR0.out; omega), S0⟩
    case round =>
      clear S0
      obtain ⟨st, r, rfl, rfl, hi, hij, hj, hkx, HLO, HHI, S1⟩ := hrel
      by_cases hlt : st < r
      · have hlt2 : (st : Int) < (r : Int) := by omega
        obtain ⟨h, hh⟩ : ∃ h, h = (st + r) / 2 := ⟨_, rfl⟩
        have eh : ((st : Int) + (r : Int)) / 2 = (h : Int) := by omega
        have hh1 : st ≤ h ∧ h < r := by omega
        clear hh
        obtain ⟨z, hz⟩ : ∃ z, p - h = z := ⟨_, rfl⟩
        have ez : (p : Int) - (h : Int) = (z : Int) := by omega
        have HZZ := Lib.hid hz
        have hzb : z < N := by omega
        clear hz
        obtain ⟨u, hu⟩ : ∃ x, x = d[z]! := ⟨_, rfl⟩
        obtain ⟨v, hv⟩ : ∃ x, x = d[h]! := ⟨_, rfl⟩
        have HUX := Lib.hid (hu.trans (at_list d (by omega)))
        have HVX := Lib.hid (hv.trans (at_list d (by omega)))
        cases hL : lessE u v with
        | true =>
          have ea : ((z : Int)).toNat = z := by omega
          have pa : (0 : Int) ≤ (z : Int) := by omega
          have ba : (z : Int) < (N : Int) := by omega
          have ra : IntKind.i64.wrap ((z : Int)) = (z : Int) := by rw [IntKind.wrap_i64]; omega
          have ec : ((h : Int)).toNat = h := by omega
          have pc : (0 : Int) ≤ (h : Int) := by omega
          have bc : (h : Int) < (N : Int) := by omega
          have rc : IntKind.i64.wrap ((h : Int)) = (h : Int) := by rw [IntKind.wrap_i64]; omega
          have la := S1.out.ld R (by omega) Tryz.prog (z) (by omega)
          have lb := S1.out.ld R (by omega) Tryz.prog (h) (by omega)
          rw [← hu] at la
          rw [← hv] at lb
          simp only [Nat.zero_add] at la lb
          have hc := S1.out.cmp HC.out (by omega) u v
          simp only [Array.append_empty] at hc
          have hv24 : cfE u v < 0 := of_decide_eq_true ((cf_less u v).trans hL)
          have hd24 : decide (cfE u v < 0) = true := decide_eq_true hv24
          clear hu hv
          generalize encE u = cu at la hc
          generalize encE v = cv at lb hc
          go_wp2_with fail
          go_quiet_grown (first | (go_at_fn 109; refine Calls.grown_of (hc _ _)))
          have S2 := Lib.hid (S1.out.grown nq osq)
          clear la lb hc S1 ea pa ba ra ec pc bc rc
          generalize grow (wr.drewN nq) osq = w2 at S2 ⊢
          clear nq osq
          go_wp2
          go_roundg (h - st)
          case measure => omega
          case rel => exact ⟨st, h, rfl, rfl, hi, by omega, by omega, by omega, HLO, Lib.hid (.inr (by rw [HZZ.out, ← HUX.out, ← HVX.out]; exact hL)), S2⟩
        | false =>
          have ea : ((z : Int)).toNat = z := by omega
          have pa : (0 : Int) ≤ (z : Int) := by omega
          have ba : (z : Int) < (N : Int) := by omega
          have ra : IntKind.i64.wrap ((z : Int)) = (z : Int) := by rw [IntKind.wrap_i64]; omega
          have ec : ((h : Int)).toNat = h := by omega
          have pc : (0 : Int) ≤ (h : Int) := by omega
          have bc : (h : Int) < (N : Int) := by omega
          have rc : IntKind.i64.wrap ((h : Int)) = (h : Int) := by rw [IntKind.wrap_i64]; omega
          have la := S1.out.ld R (by omega) Tryz.prog (z) (by omega)
          have lb := S1.out.ld R (by omega) Tryz.prog (h) (by omega)
          rw [← hu] at la
          rw [← hv] at lb
          simp only [Nat.zero_add] at la lb
          have hc := S1.out.cmp HC.out (by omega) u v
          simp only [Array.append_empty] at hc
          have hv24 : ¬ cfE u v < 0 := of_decide_eq_false ((cf_less u v).trans hL)
          have hd24 : decide (cfE u v < 0) = false := decide_eq_false hv24
          clear hu hv
          generalize encE u = cu at la hc
          generalize encE v = cv at lb hc
          go_wp2_with fail
          go_quiet_grown (first | (go_at_fn 109; refine Calls.grown_of (hc _ _)))
          have S2 := Lib.hid (S1.out.grown nq osq)
          clear la lb hc S1 ea pa ba ra ec pc bc rc
          generalize grow (wr.drewN nq) osq = w2 at S2 ⊢
          clear nq osq
          go_wp2
          go_roundg (r - (h + 1))
          case measure => omega
          case rel => exact ⟨h + 1, r, by simp, rfl, by omega, by omega, hj, by omega, Lib.hid (.inr (by rw [Nat.add_sub_cancel, HZZ.out, ← HUX.out, ← HVX.out]; exact hL)), HHI, S2⟩
      · obtain rfl : st = r := by omega
        have hlt2 : ¬ (st : Int) < (st : Int) := by omega
        have hlo := HLO.out
        have hhi := HHI.out
        rw [HD.out, show P ++ (X ++ Y ++ T) = P ++ X ++ Y ++ T by simp, show p = n - 1 from HPP.out.symm] at hlo hhi
        obtain ⟨X1, X2, Y1, Y2, hX12, hY12, x1, y1, b1, b2, b3, b4, hA, hB⟩ := sym_cut hP hX hYb (by omega) (by omega) HMID.out HNN.out.symm HCC.out hi hj HXR.out HYR.out hlo hhi
        subst hX12 hY12
        have HMC := Lib.hid (merge_cut HXR.out HYR.out hA hB)
        have HX1 := Lib.hid ((risen_append _ _).1 HXR.out)
        have HY1 := Lib.hid ((risen_append _ _).1 HYR.out)
        obtain ⟨en', hen⟩ : ∃ x, n - st = x := ⟨_, rfl⟩
        have een : (n : Int) - (st : Int) = (en' : Int) := by omega
        rw [hen] at y1 b3 b4
        rw [List.length_append] at hX hYb
        have hmm : st + en' = mid + m := by have := HNN.out; omega
        clear hlo hhi HLO HHI hA hB HXR HYR hlt hij hkx HMID HNN HPP HCC HS0 HR0 hen
        have HD1 : Hid (d.toList = P ++ ((X1 ++ X2) ++ (Y1 ++ Y2) ++ T)) := HD
        have hlen := hN2
        simp only [List.length_append] at hlen
        clear HD
        by_cases c1 : st < m
        rotate_left
        · have c1i : ¬ (st : Int) < (m : Int) := by omega
          obtain rfl : X2 = [] := List.length_eq_zero_iff.1 (by omega)
          have HL : Hid (d.toList = P ++ ((X1 ++ Y1) ++ (([] ++ Y2) ++ T))) := Lib.hid (by rw [HD1.out]; simp)
          clear HD1
          by_cases c3 : a < st
          rotate_left
          · have c3i : ¬ (a : Int) < (st : Int) := by omega
            have ex : X1 = [] := List.length_eq_zero_iff.1 (by omega)
            have HS3 : Hid (X1 ++ Y1 = sortE (X1 ++ Y1)) := Lib.hid (by rw [ex, List.nil_append, ev_sort_self]; exact HY1.out.1)
            clear ex
            have HM : Hid (d.toList = P ++ (sortE (X1 ++ Y1) ++ (([] ++ Y2) ++ T))) := Lib.hid (by rw [← HS3.out]; exact HL.out)
            clear HL HS3
            by_cases c5 : mid < en'
            rotate_left
            · have c5i : ¬ (mid : Int) < (en' : Int) := by omega
              have HS5 : Hid ([] ++ Y2 = sortE ([] ++ Y2)) := Lib.hid (by rw [List.nil_append, ev_sort_self]; exact HY1.out.2.1)
              go_wp2
              go_end0
              exact ⟨rfl, d, by have hq := HMC.out; have hm := HM.out; rw [HS5.out] at hm; rw [hm]; simp only [List.append_nil, List.nil_append, List.append_assoc] at hq ⊢; rw [← hq]; simp only [List.append_assoc], S1.out⟩
            have c5e : False := by simp only [List.length_nil] at *; omega
            exact c5e.elim
          have c3i : (a : Int) < (st : Int) := by omega
          by_cases c4 : st < mid
          rotate_left
          · have c4i : ¬ (st : Int) < (mid : Int) := by omega
            have ey : Y1 = [] := List.length_eq_zero_iff.1 (by omega)
            have HS3 : Hid (X1 ++ Y1 = sortE (X1 ++ Y1)) := Lib.hid (by rw [ey, List.append_nil, ev_sort_self]; exact HX1.out.1)
            clear ey
            have HM : Hid (d.toList = P ++ (sortE (X1 ++ Y1) ++ (([] ++ Y2) ++ T))) := Lib.hid (by rw [← HS3.out]; exact HL.out)
            clear HL HS3
            by_cases c5 : mid < en'
            rotate_left
            · have c5i : ¬ (mid : Int) < (en' : Int) := by omega
              have HS5 : Hid ([] ++ Y2 = sortE ([] ++ Y2)) := Lib.hid (by rw [List.nil_append, ev_sort_self]; exact HY1.out.2.1)
              go_wp2
              go_end0
              exact ⟨rfl, d, by have hq := HMC.out; have hm := HM.out; rw [HS5.out] at hm; rw [hm]; simp only [List.append_nil, List.nil_append, List.append_assoc] at hq ⊢; rw [← hq]; simp only [List.append_assoc], S1.out⟩
            have c5e : False := by simp only [List.length_nil] at *; omega
            exact c5e.elim
          · have c4i : (st : Int) < (mid : Int) := by omega
            have hcall := HIH.out a st mid c3 c4 (by omega) P X1 Y1 (([] ++ Y2) ++ T) d wr (by rw [HL.out]) hP (by omega) (by omega) HX1.out.1 HY1.out.1 hN S1.out
            have HCL := Lib.hid hcall
            clear hcall S1
            go_wp2_with fail
            refine HCL.out.mono ?_
            rintro e w7 ⟨rfl, d7, h7, S7⟩
            have hN7 : d7.size = N := by rw [swk_size (w0 := w0) (w := w) (g := g) h7]; simp only [List.length_append, sortE_len, List.length_nil]; omega
            have HM : Hid (d7.toList = P ++ (sortE (X1 ++ Y1) ++ (([] ++ Y2) ++ T))) := Lib.hid h7
            have S8 := Lib.hid S7
            clear HCL h7 S7 HL
            by_cases c5 : mid < en'
            rotate_left
            · have c5i : ¬ (mid : Int) < (en' : Int) := by omega
              have HS5 : Hid ([] ++ Y2 = sortE ([] ++ Y2)) := Lib.hid (by rw [List.nil_append, ev_sort_self]; exact HY1.out.2.1)
              go_wp2
              go_end0
              exact ⟨rfl, d7, by have hq := HMC.out; have hm := HM.out; rw [HS5.out] at hm; rw [hm]; simp only [List.append_nil, List.nil_append, List.append_assoc] at hq ⊢; rw [← hq]; simp only [List.append_assoc], S8.out⟩
            have c5e : False := by simp only [List.length_nil] at *; omega
            exact c5e.elim
        have c1i : (st : Int) < (m : Int) := by omega
        by_cases c2 : m < en'
        rotate_left
        · have c2i : ¬ (m : Int) < (en' : Int) := by omega
          obtain rfl : Y1 = [] := List.length_eq_zero_iff.1 (by omega)
          have HL : Hid (d.toList = P ++ ((X1 ++ []) ++ ((X2 ++ Y2) ++ T))) := Lib.hid (by rw [HD1.out]; simp)
          clear HD1
          by_cases c3 : a < st
          rotate_left
          · have c3i : ¬ (a : Int) < (st : Int) := by omega
            have ex : X1 = [] := List.length_eq_zero_iff.1 (by omega)
            have HS3 : Hid (X1 ++ [] = sortE (X1 ++ [])) := Lib.hid (by rw [ex, List.nil_append, ev_sort_self]; trivial)
            clear ex
            have HM : Hid (d.toList = P ++ (sortE (X1 ++ []) ++ ((X2 ++ Y2) ++ T))) := Lib.hid (by rw [← HS3.out]; exact HL.out)
            clear HL HS3
            by_cases c5 : mid < en'
            rotate_left
            · have c5i : ¬ (mid : Int) < (en' : Int) := by omega
              have ex : X2 = [] := List.length_eq_zero_iff.1 (by omega)
              have HS5 : Hid (X2 ++ Y2 = sortE (X2 ++ Y2)) := Lib.hid (by rw [ex, List.nil_append, ev_sort_self]; exact HY1.out.2.1)
              clear ex
              go_wp2
              go_end0
              exact ⟨rfl, d, by have hq := HMC.out; have hm := HM.out; rw [HS5.out] at hm; rw [hm]; simp only [List.append_nil, List.nil_append, List.append_assoc] at hq ⊢; rw [← hq]; simp only [List.append_assoc], S1.out⟩
            have c5i : (mid : Int) < (en' : Int) := by omega
            by_cases c6 : en' < b
            rotate_left
            · have c6i : ¬ (en' : Int) < (b : Int) := by omega
              have ey : Y2 = [] := List.length_eq_zero_iff.1 (by omega)
              have HS5 : Hid (X2 ++ Y2 = sortE (X2 ++ Y2)) := Lib.hid (by rw [ey, List.append_nil, ev_sort_self]; exact HX1.out.2.1)
              clear ey
              go_wp2
              go_end0
              exact ⟨rfl, d, by have hq := HMC.out; have hm := HM.out; rw [HS5.out] at hm; rw [hm]; simp only [List.append_nil, List.nil_append, List.append_assoc] at hq ⊢; rw [← hq]; simp only [List.append_assoc], S1.out⟩
            · have c6i : (en' : Int) < (b : Int) := by omega
              have hcall := HIH.out mid en' b c5 c6 (by omega) (P ++ sortE (X1 ++ [])) X2 Y2 T d wr (by rw [HM.out]; simp) (by simp only [List.length_append, sortE_len, List.length_nil]; omega) (by omega) (by omega) HX1.out.2.1 HY1.out.2.1 hN S1.out
              have HCL := Lib.hid hcall
              clear hcall S1
              go_wp2_with fail
              refine HCL.out.mono ?_
              rintro e w9 ⟨rfl, d9, h9, S9⟩
              clear HCL
              go_wp2
              go_end0
              exact ⟨rfl, d9, by have hq := HMC.out; rw [h9]; simp only [List.append_nil, List.nil_append, List.append_assoc] at hq ⊢; rw [← hq]; simp only [List.append_assoc], S9⟩
          have c3i : (a : Int) < (st : Int) := by omega
          have c4i : ¬ (st : Int) < (mid : Int) := by simp only [List.length_nil] at *; omega
          have HS3 : Hid (X1 ++ [] = sortE (X1 ++ [])) := Lib.hid (by rw [List.append_nil, ev_sort_self]; exact HX1.out.1)
          have HM : Hid (d.toList = P ++ (sortE (X1 ++ []) ++ ((X2 ++ Y2) ++ T))) := Lib.hid (by rw [← HS3.out]; exact HL.out)
          clear HL HS3
          by_cases c5 : mid < en'
          rotate_left
          · have c5i : ¬ (mid : Int) < (en' : Int) := by omega
            have ex : X2 = [] := List.length_eq_zero_iff.1 (by omega)
            have HS5 : Hid (X2 ++ Y2 = sortE (X2 ++ Y2)) := Lib.hid (by rw [ex, List.nil_append, ev_sort_self]; exact HY1.out.2.1)
            clear ex
            go_wp2
            go_end0
            exact ⟨rfl, d, by have hq := HMC.out; have hm := HM.out; rw [HS5.out] at hm; rw [hm]; simp only [List.append_nil, List.nil_append, List.append_assoc] at hq ⊢; rw [← hq]; simp only [List.append_assoc], S1.out⟩
          have c5i : (mid : Int) < (en' : Int) := by omega
          by_cases c6 : en' < b
          rotate_left
          · have c6i : ¬ (en' : Int) < (b : Int) := by omega
            have ey : Y2 = [] := List.length_eq_zero_iff.1 (by omega)
            have HS5 : Hid (X2 ++ Y2 = sortE (X2 ++ Y2)) := Lib.hid (by rw [ey, List.append_nil, ev_sort_self]; exact HX1.out.2.1)
            clear ey
            go_wp2
            go_end0
            exact ⟨rfl, d, by have hq := HMC.out; have hm := HM.out; rw [HS5.out] at hm; rw [hm]; simp only [List.append_nil, List.nil_append, List.append_assoc] at hq ⊢; rw [← hq]; simp only [List.append_assoc], S1.out⟩
          · have c6i : (en' : Int) < (b : Int) := by omega
            have hcall := HIH.out mid en' b c5 c6 (by omega) (P ++ sortE (X1 ++ [])) X2 Y2 T d wr (by rw [HM.out]; simp) (by simp only [List.length_append, sortE_len, List.length_nil]; omega) (by omega) (by omega) HX1.out.2.1 HY1.out.2.1 hN S1.out
            have HCL := Lib.hid hcall
            clear hcall S1
            go_wp2_with fail
            refine HCL.out.mono ?_
            rintro e w9 ⟨rfl, d9, h9, S9⟩
            clear HCL
            go_wp2
            go_end0
            exact ⟨rfl, d9, by have hq := HMC.out; rw [h9]; simp only [List.append_nil, List.nil_append, List.append_assoc] at hq ⊢; rw [← hq]; simp only [List.append_assoc], S9⟩
        · have c2i : (m : Int) < (en' : Int) := by omega
          have hcall := HROT.out st m en' (P ++ X1) X2 Y1 (Y2 ++ T) d wr (by rw [HD1.out]; simp) (by rw [List.length_append]; omega) (by omega) (by omega) (by omega) (by omega) hN S1.out
          have HCL := Lib.hid hcall
          clear hcall HD1 S1
          go_wp2_with fail
          refine HCL.out.mono ?_
          rintro e w5 ⟨rfl, d5, h5, S5⟩
          have HL : Hid (d5.toList = P ++ ((X1 ++ Y1) ++ ((X2 ++ Y2) ++ T))) := Lib.hid (by rw [h5]; simp)
          have hN5 : d5.size = N := by rw [swk_size (w0 := w0) (w := w) (g := g) h5]; simp only [List.length_append]; omega
          have S6 := Lib.hid S5
          clear HCL h5 S5
          by_cases c3 : a < st
          rotate_left
          · have c3i : ¬ (a : Int) < (st : Int) := by omega
            have ex : X1 = [] := List.length_eq_zero_iff.1 (by omega)
            have HS3 : Hid (X1 ++ Y1 = sortE (X1 ++ Y1)) := Lib.hid (by rw [ex, List.nil_append, ev_sort_self]; exact HY1.out.1)
            clear ex
            have HM : Hid (d5.toList = P ++ (sortE (X1 ++ Y1) ++ ((X2 ++ Y2) ++ T))) := Lib.hid (by rw [← HS3.out]; exact HL.out)
            clear HL HS3
            by_cases c5 : mid < en'
            rotate_left
            · have c5i : ¬ (mid : Int) < (en' : Int) := by omega
              have ex : X2 = [] := List.length_eq_zero_iff.1 (by omega)
              have HS5 : Hid (X2 ++ Y2 = sortE (X2 ++ Y2)) := Lib.hid (by rw [ex, List.nil_append, ev_sort_self]; exact HY1.out.2.1)
              clear ex
              go_wp2
              go_end0
              exact ⟨rfl, d5, by have hq := HMC.out; have hm := HM.out; rw [HS5.out] at hm; rw [hm]; simp only [List.append_nil, List.nil_append, List.append_assoc] at hq ⊢; rw [← hq]; simp only [List.append_assoc], S6.out⟩
            have c5i : (mid : Int) < (en' : Int) := by omega
            by_cases c6 : en' < b
            rotate_left
            · have c6i : ¬ (en' : Int) < (b : Int) := by omega
              have ey : Y2 = [] := List.length_eq_zero_iff.1 (by omega)
              have HS5 : Hid (X2 ++ Y2 = sortE (X2 ++ Y2)) := Lib.hid (by rw [ey, List.append_nil, ev_sort_self]; exact HX1.out.2.1)
              clear ey
              go_wp2
              go_end0
              exact ⟨rfl, d5, by have hq := HMC.out; have hm := HM.out; rw [HS5.out] at hm; rw [hm]; simp only [List.append_nil, List.nil_append, List.append_assoc] at hq ⊢; rw [← hq]; simp only [List.append_assoc], S6.out⟩
            · have c6i : (en' : Int) < (b : Int) := by omega
              have hcall := HIH.out mid en' b c5 c6 (by omega) (P ++ sortE (X1 ++ Y1)) X2 Y2 T d5 w5 (by rw [HM.out]; simp) (by simp only [List.length_append, sortE_len]; omega) (by omega) (by omega) HX1.out.2.1 HY1.out.2.1 hN5 S6.out
              have HCL := Lib.hid hcall
              clear hcall S6
              go_wp2_with fail
              refine HCL.out.mono ?_
              rintro e w9 ⟨rfl, d9, h9, S9⟩
              clear HCL
              go_wp2
              go_end0
              exact ⟨rfl, d9, by have hq := HMC.out; rw [h9]; simp only [List.append_nil, List.nil_append, List.append_assoc] at hq ⊢; rw [← hq]; simp only [List.append_assoc], S9⟩
          have c3i : (a : Int) < (st : Int) := by omega
          by_cases c4 : st < mid
          rotate_left
          · have c4i : ¬ (st : Int) < (mid : Int) := by omega
            have ey : Y1 = [] := List.length_eq_zero_iff.1 (by omega)
            have HS3 : Hid (X1 ++ Y1 = sortE (X1 ++ Y1)) := Lib.hid (by rw [ey, List.append_nil, ev_sort_self]; exact HX1.out.1)
            clear ey
            have HM : Hid (d5.toList = P ++ (sortE (X1 ++ Y1) ++ ((X2 ++ Y2) ++ T))) := Lib.hid (by rw [← HS3.out]; exact HL.out)
            clear HL HS3
            by_cases c5 : mid < en'
            rotate_left
            · have c5i : ¬ (mid : Int) < (en' : Int) := by omega
              have ex : X2 = [] := List.length_eq_zero_iff.1 (by omega)
              have HS5 : Hid (X2 ++ Y2 = sortE (X2 ++ Y2)) := Lib.hid (by rw [ex, List.nil_append, ev_sort_self]; exact HY1.out.2.1)
              clear ex
              go_wp2
              go_end0
              exact ⟨rfl, d5, by have hq := HMC.out; have hm := HM.out; rw [HS5.out] at hm; rw [hm]; simp only [List.append_nil, List.nil_append, List.append_assoc] at hq ⊢; rw [← hq]; simp only [List.append_assoc], S6.out⟩
            have c5i : (mid : Int) < (en' : Int) := by omega
            by_cases c6 : en' < b
            rotate_left
            · have c6i : ¬ (en' : Int) < (b : Int) := by omega
              have ey : Y2 = [] := List.length_eq_zero_iff.1 (by omega)
              have HS5 : Hid (X2 ++ Y2 = sortE (X2 ++ Y2)) := Lib.hid (by rw [ey, List.append_nil, ev_sort_self]; exact HX1.out.2.1)
              clear ey
              go_wp2
              go_end0
              exact ⟨rfl, d5, by have hq := HMC.out; have hm := HM.out; rw [HS5.out] at hm; rw [hm]; simp only [List.append_nil, List.nil_append, List.append_assoc] at hq ⊢; rw [← hq]; simp only [List.append_assoc], S6.out⟩
            · have c6i : (en' : Int) < (b : Int) := by omega
              have hcall := HIH.out mid en' b c5 c6 (by omega) (P ++ sortE (X1 ++ Y1)) X2 Y2 T d5 w5 (by rw [HM.out]; simp) (by simp only [List.length_append, sortE_len]; omega) (by omega) (by omega) HX1.out.2.1 HY1.out.2.1 hN5 S6.out
              have HCL := Lib.hid hcall
              clear hcall S6
              go_wp2_with fail
              refine HCL.out.mono ?_
              rintro e w9 ⟨rfl, d9, h9, S9⟩
              clear HCL
              go_wp2
              go_end0
              exact ⟨rfl, d9, by have hq := HMC.out; rw [h9]; simp only [List.append_nil, List.nil_append, List.append_assoc] at hq ⊢; rw [← hq]; simp only [List.append_assoc], S9⟩
          · have c4i : (st : Int) < (mid : Int) := by omega
            have hcall := HIH.out a st mid c3 c4 (by omega) P X1 Y1 ((X2 ++ Y2) ++ T) d5 w5 (by rw [HL.out]) hP (by omega) (by omega) HX1.out.1 HY1.out.1 hN5 S6.out
            have HCL := Lib.hid hcall
            clear hcall S6
            go_wp2_with fail
            refine HCL.out.mono ?_
            rintro e w7 ⟨rfl, d7, h7, S7⟩
            have hN7 : d7.size = N := by rw [swk_size (w0 := w0) (w := w) (g := g) h7]; simp only [List.length_append, sortE_len]; omega
            have HM : Hid (d7.toList = P ++ (sortE (X1 ++ Y1) ++ ((X2 ++ Y2) ++ T))) := Lib.hid h7
            have S8 := Lib.hid S7
            clear HCL h7 S7 HL
            by_cases c5 : mid < en'
            rotate_left
            · have c5i : ¬ (mid : Int) < (en' : Int) := by omega
              have ex : X2 = [] := List.length_eq_zero_iff.1 (by omega)
              have HS5 : Hid (X2 ++ Y2 = sortE (X2 ++ Y2)) := Lib.hid (by rw [ex, List.nil_append, ev_sort_self]; exact HY1.out.2.1)
              clear ex
              go_wp2
              go_end0
              exact ⟨rfl, d7, by have hq := HMC.out; have hm := HM.out; rw [HS5.out] at hm; rw [hm]; simp only [List.append_nil, List.nil_append, List.append_assoc] at hq ⊢; rw [← hq]; simp only [List.append_assoc], S8.out⟩
            have c5i : (mid : Int) < (en' : Int) := by omega
            by_cases c6 : en' < b
            rotate_left
            · have c6i : ¬ (en' : Int) < (b : Int) := by omega
              have ey : Y2 = [] := List.length_eq_zero_iff.1 (by omega)
              have HS5 : Hid (X2 ++ Y2 = sortE (X2 ++ Y2)) := Lib.hid (by rw [ey, List.append_nil, ev_sort_self]; exact HX1.out.2.1)
              clear ey
              go_wp2
              go_end0
              exact ⟨rfl, d7, by have hq := HMC.out; have hm := HM.out; rw [HS5.out] at hm; rw [hm]; simp only [List.append_nil, List.nil_append, List.append_assoc] at hq ⊢; rw [← hq]; simp only [List.append_assoc], S8.out⟩
            · have c6i : (en' : Int) < (b : Int) := by omega
              have hcall := HIH.out mid en' b c5 c6 (by omega) (P ++ sortE (X1 ++ Y1)) X2 Y2 T d7 w7 (by rw [HM.out]; simp) (by simp only [List.length_append, sortE_len]; omega) (by omega) (by omega) HX1.out.2.1 HY1.out.2.1 hN7 S8.out
              have HCL := Lib.hid hcall
              clear hcall S8
              go_wp2_with fail
              refine HCL.out.mono ?_
              rintro e w9 ⟨rfl, d9, h9, S9⟩
              clear HCL
              go_wp2
              go_end0
              exact ⟨rfl, d9, by have hq := HMC.out; rw [h9]; simp only [List.append_nil, List.nil_append, List.append_assoc] at hq ⊢; rw [← hq]; simp only [List.append_assoc], S9⟩
theorem sym_any (k : Nat) (hk : k = 11) (g cap N : Nat) (d0 : Array EvP) (w0 : World) (R : RowK encE k w0 g 0 d0) (hs : d0.size = N) (hsz : N ≤ 1000000) : ∀ (q a m b : Nat), a < m → m < b → b - a ≤ q → SymC k g cap N w0 a m b
  | 0, a, m, b, h1, h2, h3 => by omega
  | q + 1, a, m, b, h1, h2, h3 => by
    by_cases e1 : a + 1 = m
    · exact sym_left k hk g cap N a m b d0 w0 R hs hsz e1 h2
    · by_cases e2 : m + 1 = b
      · exact sym_right k hk g cap N a m b d0 w0 R hs hsz (by omega) e2
      · exact sym_main k hk g cap N a m b d0 w0 R hs hsz (by omega) (by omega) (fun a' m' b' g1 g2 g3 => sym_any k hk g cap N d0 w0 R hs hsz q a' m' b' g1 g2 (by omega))
end Go.Proofs.YtpgncbhahocmbaaGreat
