/-
  The document's own answers for layer 8: Less, at, take, numbers, Put.
-/
import Derived.Test.YtgfomfioagblfaaZao
import Derived.Test.YtgfomfioagblfaaZac
import Derived.Test.YtgfomfioagblfaaZak
import Derived.Test.YtgfomfioagblfaaZam
import Derived.Test.YtgfomfioagblfaaZae
namespace Go.Proofs.Ytgfomfioagblfaa
open Go.RowKit
set_option linter.unusedVariables false
set_option linter.unusedSimpArgs false
set_option maxRecDepth 20000

set_option maxHeartbeats 4000000 in
theorem rless8 (a b : EvP) (W : World) : Calls Try.prog 13 #[.agg (evC a), .agg (evC b)] W fun e w' => e = .returned (.bool (lessE a b)) ∧ Below W.heap.size W w' := by
  have a0 : (evC a)[0]? = some (.int .i64 a.id) := rfl
  have a2 : (evC a)[2]? = some (.int .i64 a.tm) := rfl
  have b0 : (evC b)[0]? = some (.int .i64 b.id) := rfl
  have b2 : (evC b)[2]? = some (.int .i64 b.tm) := rfl
  obtain ⟨L, hL⟩ : ∃ L, lessE a b = L := ⟨_, rfl⟩
  have HL : Hid ((a.tm < b.tm ∨ (a.tm = b.tm ∧ a.id < b.id)) ↔ L = true) := Lib.hid (by rw [← hL]; simp [lessE])
  rw [hL]
  clear hL
  generalize evC a = ca at *
  generalize evC b = cb at *
  generalize a.tm = ta at *
  generalize b.tm = tb at *
  generalize a.id = ia at *
  generalize b.id = ib at *
  have c0 := ((Has.new W 33 ca rfl).alloc (.cells cb 33)).cell 0 a0
  have c2 := ((Has.new W 33 ca rfl).alloc (.cells cb 33)).cell 2 a2
  have d0 := (Has.new (W.alloc (.cells ca 33)) 33 cb (s := W.heap.size + 1) (by simp)).cell 0 b0
  have d2 := (Has.new (W.alloc (.cells ca 33)) 33 cb (s := W.heap.size + 1) (by simp)).cell 2 b2
  have hlt := cell_lt c0
  clear a0 a2 b0 b2
  by_cases h1 : ta < tb
  · obtain rfl : L = true := HL.out.1 (.inl h1)
    clear HL
    go_enter Try.func13, Try.ntmps13
    go_wp2
    go_ret
    exact ⟨rfl, by (repeat' (first | with_reducible exact Below.refl _ _ | with_reducible assumption | with_reducible refine bel_alloc ?_ _ | with_reducible refine bel_set ?_ ?_ _ | with_reducible refine below_drewN ?_ _ | with_reducible refine below_drew ?_ | (simp; done) | (simp; omega) | omega))⟩
  · by_cases h2 : ta = tb
    · subst h2
      by_cases h3 : ia < ib
      · obtain rfl : L = true := HL.out.1 (.inr ⟨rfl, h3⟩)
        clear HL
        go_enter Try.func13, Try.ntmps13
        go_wp2
        go_ret
        exact ⟨rfl, by (repeat' (first | with_reducible exact Below.refl _ _ | with_reducible assumption | with_reducible refine bel_alloc ?_ _ | with_reducible refine bel_set ?_ ?_ _ | with_reducible refine below_drewN ?_ _ | with_reducible refine below_drew ?_ | (simp; done) | (simp; omega) | omega))⟩
      · obtain rfl : L = false := by
          cases L with
          | false => rfl
          | true => rcases HL.out.2 rfl with q | q <;> omega
        clear HL
        have h4 : decide (ia < ib) = false := decide_eq_false h3
        go_enter Try.func13, Try.ntmps13
        go_wp2
        go_ret
        exact ⟨rfl, by (repeat' (first | with_reducible exact Below.refl _ _ | with_reducible assumption | with_reducible refine bel_alloc ?_ _ | with_reducible refine bel_set ?_ ?_ _ | with_reducible refine below_drewN ?_ _ | with_reducible refine below_drew ?_ | (simp; done) | (simp; omega) | omega))⟩
    · obtain rfl : L = false := by
        cases L with
        | false => rfl
        | true => rcases HL.out.2 rfl with q | q <;> omega
      clear HL
      have h4 : decide (ta < tb) = false := decide_eq_false h1
      have h5 : (ta == tb) = false := by simpa using h2
      go_enter Try.func13, Try.ntmps13
      go_wp2
      go_ret
      exact ⟨rfl, by (repeat' (first | with_reducible exact Below.refl _ _ | with_reducible assumption | with_reducible refine bel_alloc ?_ _ | with_reducible refine bel_set ?_ ?_ _ | with_reducible refine below_drewN ?_ _ | with_reducible refine below_drew ?_ | (simp; done) | (simp; omega) | omega))⟩
theorem rat8 (A : Option Addr) (n c i : Nat) (l : List Int) (w : World) (hA : Nums w A l) (hn : l.length = n) (hi : i ≤ 1000000) (x : Int) (hx : atL l i = x) :
    Calls Try.prog 29 #[.slice A n c, .int .i64 (i : Int)] w fun e w' => e = .returned (.int .i64 x) ∧ w = w' := by
  subst hx
  by_cases h : i < n
  · obtain ⟨b, o, rfl, z⟩ := hA i (by omega)
    have e0 : (i : Int) < (n : Int) := by omega
    have hs := cell_lt z
    have HE : Hid (atL l i = l.getD i 0) := rfl
    generalize l.getD i 0 = y at *
    clear hA
    go_enter Try.func29, Try.ntmps29
    go_wp2
    go_ret
    exact ⟨ret_one HE.out.symm, rfl⟩
  · have HE := Lib.hid (atL_out (l := l) (i := i) (by omega))
    have e0 : (n : Int) ≤ (i : Int) := by omega
    clear hA
    go_enter Try.func29, Try.ntmps29
    go_wp2
    go_ret
    exact ⟨ret_one HE.out.symm, rfl⟩
theorem firstN_none {f : Nat} {b : List (BitVec 8)} (h : takeB b = none) : firstN f b = [] := by
  cases f with
  | zero => rfl
  | succ f => rw [firstN, h]
theorem firstN_some {f : Nat} {b t : List (BitVec 8)} {v : Nat} (h : takeB b = some (v, t)) : firstN (f + 1) b = (v : Int) :: firstN f t := by rw [firstN, h]
set_option maxHeartbeats 4000000 in
theorem rtake8 (B : Option Addr) (m d : Nat) (b : List (BitVec 8)) (w : World) (hb0 : Sl 1 w B m d (bytesV b)) (hmd : m ≤ d) (hm : m ≤ 2000) (L : List Int) (hL : firstN 10 b = L) (n : Nat) (hn : L.length = n) :
    Calls Try.prog 28 #[.slice B m d] w fun e w' => ∃ A c, e = .returned (.slice A n c) ∧ NRow w' w.heap.size A c L ∧ Below w.heap.size w w' := by
  have hbl := hb0.blen
  have HB := Lib.hid hb0
  have HL := Lib.hid hL
  have HN := Lib.hid hn
  clear hb0 hL hn
  go_enter Try.func28, Try.ntmps28
  go_wp2
  go_loopw [0, 3, 4, 5, 6] (fun vb vo v4 v5 v6 wr => ∃ (R : Option Addr) (q e : Nat) (r : List (BitVec 8)) (A : Option Addr) (c : Nat) (D : List Int) (k : Nat), vb = .slice R q e ∧ vo = .slice A k c ∧ r.length = q ∧ q ≤ e ∧ q ≤ 2000 ∧ k ≤ 10 ∧ D.length = k ∧ Hid (∀ w0, Sl 1 w0 B m d (bytesV b) → Sl 1 w0 R q e (bytesV r)) ∧ Hid (firstN 10 b = D ++ firstN (10 - k) r) ∧ NRow wr w.heap.size A c D ∧ Below w.heap.size w wr) (fun _ vo _ _ _ _ => match vo with | .slice _ q _ => 10 - q | _ => 0)
  case atStart => exact ⟨B, m, d, b, none, 0, [], 0, rfl, rfl, hbl, hmd, hm, by omega, rfl, Lib.hid (fun _ h => h), by show _ = _; simp, NRow.nil _ _, Below.refl _ _⟩
  case round =>
    obtain ⟨R, q, e, r, A, c, D, k, rfl, rfl, hrl, hqe, hq, hk, hDk, hlay, hal, hrow, hbw⟩ := hrel
    by_cases h10 : k < 10
    · have hlt : (k : Int) < 10 := by omega
      have hsl := hlay.out wr (HB.out.below hbw)
      cases ht : takeB r with
      | none =>
        have HC := Lib.hid (rtake_bad R q e r wr (byts_of_sl hsl) hrl ht)
        have HE : Hid (D = L) := by
          show _ = _
          rw [← HL.out, hal.out, firstN_none ht, List.append_nil]
        have hLe := HE.out
        subst hLe
        have hkn : k = n := by rw [← HN.out, hDk]
        subst hkn
        clear ht hsl
        go_wp2_with fail
        refine HC.out.mono ?_
        rintro e2 w2 ⟨rfl, rfl⟩
        go_wp2
        go_ret
        exact ⟨A, c, rfl, hrow, hbw⟩
      | some x =>
        obtain ⟨v, t⟩ := x
        have hsh := take_shorter ht
        obtain ⟨u, hu⟩ : ∃ u, t.length = u := ⟨_, rfl⟩
        have HC := Lib.hid (rtake_all R q e r t v u wr hsl (by omega) hqe ht hu)
        have HAL : Hid (firstN 10 b = (D ++ [(v : Int)]) ++ firstN (10 - (k + 1)) t) := by
          show _ = _
          rw [hal.out, show 10 - k = (10 - (k + 1)) + 1 by omega, firstN_some ht]
          simp
        clear ht hsl hal
        go_wp2_with fail
        refine HC.out.mono ?_
        rintro e2 w2 ⟨R2, e3, rfl, hl2, hc2, b2⟩
        have hrow2 := hrow.below b2
        replace b2 := bel_on hbw b2
        obtain ⟨A5, c5, w5, hr5, hrow5, hbel5, -, -, -⟩ := nrow_lay2 hrow2 (ys := [(v : Int)]) hDk (k := 1) rfl (by omega) b2.size (s := w2.heap.size) rfl
        have HR5 : Hid ((Builtin.append_ #[27, 27] 27 #[.slice A k c, .slice (some ⟨w2.heap.size, 0, none⟩) 1 1]).run Try.prog (w2.alloc (.cells #[.int .i64 (v : Int)] 3)) = .ok (.slice A5 (k + 1) c5) w5) := hr5
        have hb5 := hbel5 w (Nat.le_refl _) b2
        have hD5 : (D ++ [(v : Int)]).length = k + 1 := by rw [List.length_append, hDk]; rfl
        have HLAY : Hid (∀ w0, Sl 1 w0 B m d (bytesV b) → Sl 1 w0 R2 u e3 (bytesV t)) := fun w0 h => hl2 w0 (hlay.out w0 h)
        clear hr5 hbel5 hl2 hlay hrow hrow2 HC
        go_wp2_with (at_builtin; refine wpList_append_run (o := ⟨some 22, _, _, _, _, _⟩) HR5.out rfl rfl rfl rfl ?_)
        go_roundw
        case rel => exact ⟨R2, u, e3, t, A5, c5, D ++ [(v : Int)], k + 1, rfl, rfl, hu, hc2, by omega, by omega, hD5, HLAY, HAL, hrow5, hb5⟩
        case measure => simp; omega
    · have hlt : ¬ (k : Int) < 10 := by omega
      obtain rfl : k = 10 := by omega
      have HE : Hid (D = L) := by
        show _ = _
        rw [← HL.out, hal.out]
        simp [firstN]
      have hLe := HE.out
      subst hLe
      have hkn : 10 = n := by rw [← HN.out, hDk]
      subst hkn
      go_wp2
      go_ret
      exact ⟨A, c, rfl, hrow, hbw⟩
set_option maxHeartbeats 8000000 in
theorem numbers8_c (e : EvP) (W : World) (n : Nat) (zs : List Int) (hz : e.nums = zs) (hn : zs.length = n) :
    Calls Try.prog 23 #[.agg (evC e)] W fun r w' => ∃ A c, r = .returned (.slice A n c) ∧ NRow w' W.heap.size A c zs ∧ Below W.heap.size W w' := by
  obtain ⟨i, wk, t, k, fr, too, el, un, cl, ge, cd⟩ := e
  have hh := (Has.new W 33 (evC ⟨i, wk, t, k, fr, too, el, un, cl, ge, cd⟩) rfl)
  have nb : NRow ((W.alloc (.cells (evC ⟨i, wk, t, k, fr, too, el, un, cl, ge, cd⟩) 33)).alloc (.cells #[.int .i64 i, .int .i64 wk, .int .i64 t, .int .i64 k] 3)) W.heap.size (some ⟨W.heap.size + 1, 0, none⟩) 4 [i, wk, t, k] := by
    have := nrow_new (W.alloc (.cells (evC ⟨i, wk, t, k, fr, too, el, un, cl, ge, cd⟩) 33)) [i, wk, t, k] (k := 4) rfl (by omega)
    rw [show (W.alloc (.cells (evC ⟨i, wk, t, k, fr, too, el, un, cl, ge, cd⟩) 33)).heap.size = W.heap.size + 1 by simp] at this
    exact this.mono (by omega)
  have bb : Below W.heap.size W ((W.alloc (.cells (evC ⟨i, wk, t, k, fr, too, el, un, cl, ge, cd⟩) 33)).alloc (.cells #[.int .i64 i, .int .i64 wk, .int .i64 t, .int .i64 k] 3)) := by (repeat' (first | with_reducible exact Below.refl _ _ | with_reducible assumption | with_reducible refine bel_alloc ?_ _ | with_reducible refine bel_set ?_ ?_ _ | with_reducible refine below_drewN ?_ _ | with_reducible refine below_drew ?_ | (simp; done) | (simp; omega) | omega))
  have HNB := Lib.hid nb
  have HBB := Lib.hid bb
  have HH0 := Lib.hid hh
  have HH1 := Lib.hid (hh.alloc (.cells #[.int .i64 i, .int .i64 wk, .int .i64 t, .int .i64 k] 3))
  have d0 : (evC ⟨i, wk, t, k, fr, too, el, un, cl, ge, cd⟩)[0]? = some (.int .i64 i) := rfl
  have d1 : (evC ⟨i, wk, t, k, fr, too, el, un, cl, ge, cd⟩)[1]? = some (.int .i64 wk) := rfl
  have d2 : (evC ⟨i, wk, t, k, fr, too, el, un, cl, ge, cd⟩)[2]? = some (.int .i64 t) := rfl
  have d3 : (evC ⟨i, wk, t, k, fr, too, el, un, cl, ge, cd⟩)[3]? = some (.int .i64 k) := rfl
  have d4 : (evC ⟨i, wk, t, k, fr, too, el, un, cl, ge, cd⟩)[4]? = some (.int .i64 fr) := rfl
  have d5 : (evC ⟨i, wk, t, k, fr, too, el, un, cl, ge, cd⟩)[5]? = some (.int .i64 too) := rfl
  have d6 : (evC ⟨i, wk, t, k, fr, too, el, un, cl, ge, cd⟩)[6]? = some (.int .i64 el) := rfl
  have d7 : (evC ⟨i, wk, t, k, fr, too, el, un, cl, ge, cd⟩)[7]? = some (.int .i64 un) := rfl
  have d8 : (evC ⟨i, wk, t, k, fr, too, el, un, cl, ge, cd⟩)[8]? = some (.int .i64 cl) := rfl
  have d9 : (evC ⟨i, wk, t, k, fr, too, el, un, cl, ge, cd⟩)[9]? = some (.int .i64 ge) := rfl
  have d10 : (evC ⟨i, wk, t, k, fr, too, el, un, cl, ge, cd⟩)[10]? = some (.int .i64 cd) := rfl
  have D := Lib.hid (And.intro d4 (And.intro d5 (And.intro d6 (And.intro d7 (And.intro d8 (And.intro d9 d10))))))
  clear hh nb bb d4 d5 d6 d7 d8 d9 d10
  generalize evC ⟨i, wk, t, k, fr, too, el, un, cl, ge, cd⟩ = ca at *
  have c0 := HH0.out.cell 0 d0
  have c1 := HH0.out.cell 1 d1
  have c2 := HH0.out.cell 2 d2
  have c3 := HH0.out.cell 3 d3
  have hlt := cell_lt c0
  have e3 := HH1.out.cell 3 d3
  have hlt1 := cell_lt e3
  clear d0 d1 d2
  by_cases k3 : k = 3
  · subst k3
    obtain rfl : zs = [i, wk, t, 3] ++ [fr, too, el, un, cl, ge] := by rw [← hz]; simp [EvP.nums]
    obtain rfl : n = 10 := by rw [← hn]; rfl
    obtain ⟨A5, c5, w5, hr5, hrow5, hbel5, hs5, hk5, -⟩ := nrow_lay2 HNB.out (ys := [fr, too, el, un, cl, ge]) (n := 4) rfl (k := 6) rfl (by omega) HBB.out.size (s := W.heap.size + 1 + 1) (by simp)
    have HR5 : Hid ((Builtin.append_ #[27, 27] 27 #[.slice (some ⟨W.heap.size + 1, 0, none⟩) 4 4, .slice (some ⟨W.heap.size + 1 + 1, 0, none⟩) 6 6]).run Try.prog (((W.alloc (.cells ca 33)).alloc (.cells #[.int .i64 i, .int .i64 wk, .int .i64 t, .int .i64 3] 3)).alloc (.cells #[.int .i64 fr, .int .i64 too, .int .i64 el, .int .i64 un, .int .i64 cl, .int .i64 ge] 3)) = .ok (.slice A5 10 c5) w5) := hr5
    have hb5 := hbel5 W (Nat.le_refl _) HBB.out
    have H5 : Has w5 W.heap.size ca := by
      obtain ⟨t9, h9⟩ := HH1.out
      exact ⟨t9, (hk5 W.heap.size (by omega) (fun ad h => by injection h with h; subst h; simp)).trans h9⟩
    have f3 := H5.cell 3 d3
    have flt := cell_lt f3
    have g4 := HH1.out.cell 4 D.out.1
    have g5 := HH1.out.cell 5 D.out.2.1
    have g6 := HH1.out.cell 6 D.out.2.2.1
    have g7 := HH1.out.cell 7 D.out.2.2.2.1
    have g8 := HH1.out.cell 8 D.out.2.2.2.2.1
    have g9 := HH1.out.cell 9 D.out.2.2.2.2.2.1
    clear hr5 hbel5 hs5 hk5 H5 HH0 HH1 HNB HBB D d3 hz hn
    go_enter Try.func23, Try.ntmps23
    go_wp2_with (at_builtin; refine wpList_append_run HR5.out rfl rfl rfl rfl ?_)
    go_ret
    exact ⟨A5, c5, rfl, hrow5, hb5⟩
  · have k3b : (k == 3) = false := by simpa using k3
    by_cases k4 : k = 4
    · subst k4
      obtain rfl : zs = [i, wk, t, 4] ++ [cd] := by rw [← hz]; simp [EvP.nums]
      obtain rfl : n = 5 := by rw [← hn]; rfl
      obtain ⟨A5, c5, w5, hr5, hrow5, hbel5, hs5, hk5, -⟩ := nrow_lay2 HNB.out (ys := [cd]) (n := 4) rfl (k := 1) rfl (by omega) HBB.out.size (s := W.heap.size + 1 + 1) (by simp)
      have HR5 : Hid ((Builtin.append_ #[27, 27] 27 #[.slice (some ⟨W.heap.size + 1, 0, none⟩) 4 4, .slice (some ⟨W.heap.size + 1 + 1, 0, none⟩) 1 1]).run Try.prog (((W.alloc (.cells ca 33)).alloc (.cells #[.int .i64 i, .int .i64 wk, .int .i64 t, .int .i64 4] 3)).alloc (.cells #[.int .i64 cd] 3)) = .ok (.slice A5 5 c5) w5) := hr5
      have hb5 := hbel5 W (Nat.le_refl _) HBB.out
      have g10 := HH1.out.cell 10 D.out.2.2.2.2.2.2
      clear hr5 hbel5 hs5 hk5 HH0 HH1 HNB HBB D d3 hz hn
      go_enter Try.func23, Try.ntmps23
      go_wp2_with (at_builtin; refine wpList_append_run HR5.out rfl rfl rfl rfl ?_)
      go_ret
      exact ⟨A5, c5, rfl, hrow5, hb5⟩
    · have k4b : (k == 4) = false := by simpa using k4
      obtain rfl : zs = [i, wk, t, k] := by rw [← hz]; simp [EvP.nums, k3, k4]
      obtain rfl : n = 4 := by rw [← hn]; rfl
      clear HH0 HH1 D d3 hz hn
      go_enter Try.func23, Try.ntmps23
      go_wp2
      go_ret
      exact ⟨_, 4, rfl, HNB.out, HBB.out⟩
theorem rput_un8 (A0 : Option Addr) (m0 c0 : Nat) (xs : List (BitVec 8)) (e : EvP) (ca : Array Value) (hca : evC e = ca) (hi : e.In) (hm : m0 ≤ 1000) (X : List (BitVec 8)) (E : Int) (n : Nat) (hX : putR8 xs e = (X, E)) (hn : X.length = n) (W : World) (hx : Sl 1 W A0 m0 c0 (bytesV xs)) :
    Calls Try.prog 7 #[.slice A0 m0 c0, .agg ca] W fun r w' => ∃ A' c', r = .returned (.tuple #[.slice A' n c', .int .i64 E]) ∧ Sl 1 w' A' n c' (bytesV X) ∧ Below W.heap.size W w' := by
  subst hca
  obtain ⟨b, hb⟩ : ∃ b, decide e.Fair = b := ⟨_, rfl⟩
  have HF := Lib.hid (fun W => rfair_any e hi W b hb)
  have HX := Lib.hid hx
  have HZ := Lib.hid (evC_size e)
  have HO := Lib.hid (evC_one e)
  obtain ⟨q, hq⟩ : ∃ q, e.nums.length = q := ⟨_, rfl⟩
  have HNU := Lib.hid (fun W => numbers8_c e W q e.nums rfl hq)
  unfold putR8 at hX
  cases b with
  | true =>
    have hf := of_decide_eq_true hb
    rw [if_pos hf] at hX
    obtain ⟨rfl, rfl⟩ := Prod.mk.inj hX
    obtain ⟨h1, h2, h3⟩ := ev_bytes_put hf
    have hz : ∀ z ∈ e.nums, 0 ≤ z ∧ z ≤ 9223372036854775807 := fun z hz => by
      rw [← h3] at hz
      obtain ⟨k, hk, rfl⟩ := List.mem_map.1 hz
      have := h2 k hk
      omega
    have hq10 : q ≤ 1000 := by have := ev_len e; omega
    have HP := Lib.hid (fun (A B : Option Addr) (c d : Nat) (w : World) (hx : Sl 1 w A0 m0 c0 (bytesV xs)) (hB : Nums w B e.nums) => rput_un A0 m0 c0 xs B q d e.nums w (xs ++ e.bytes) 0 n (by unfold putR; rw [if_pos (fun z h => (hz z h).1), h1]) hn hx hB hq (fun z h => (hz z h).2) hm hq10)
    clear hb hf hX hn h1 h2 h3 hz hx hi hq
    generalize evC e = es at *
    go_enter Try.func7, Try.ntmps7
    go_wp2_with (refine wpList_load_e (by rfl) _ rfl W.heap.size rfl es (Has.new W _ es rfl) HZ.out ?_)
    refine (HF.out _).mono ?_
    rintro r w1 ⟨rfl, b1⟩
    have HB1 := Lib.hid ((Has.new W 33 es rfl).below b1)
    replace b1 := bel_on (bel_alloc (Below.refl _ _) _) b1
    go_wp2_with (refine wpList_load_e (by rfl) _ rfl W.heap.size rfl es HB1.out HZ.out ?_)
    refine (HNU.out _).mono ?_
    rintro r w2 ⟨B2, d2, rfl, hr2, b2⟩
    replace b2 := bel_on b1 b2
    go_wp2_with fail
    refine (HP.out none B2 0 d2 w2 (HX.out.below b2) hr2.nums).mono ?_
    rintro r w3 ⟨A3, c3, rfl, h3, b3⟩
    go_wp2
    refine bodyPost_ret (v := .tuple #[.slice A3 n c3, .int .i64 0]) (by simp [results, Try.results7, go_sem]) rfl ⟨A3, c3, rfl, h3, bel_on b2 b3⟩
  | false =>
    have hf := of_decide_eq_false hb
    rw [if_neg hf] at hX
    obtain ⟨rfl, rfl⟩ := Prod.mk.inj hX
    obtain rfl : n = 0 := by rw [← hn]; rfl
    clear hb hf hX hn hx hi hq HNU
    generalize evC e = es at *
    go_enter Try.func7, Try.ntmps7
    go_wp2_with (refine wpList_load_e (by rfl) _ rfl W.heap.size rfl es (Has.new W _ es rfl) HZ.out ?_)
    refine (HF.out _).mono ?_
    rintro r w1 ⟨rfl, b1⟩
    replace b1 := bel_on (bel_alloc (Below.refl _ _) _) b1
    go_wp2
    refine bodyPost_ret (v := .tuple #[.slice none 0 0, .int .i64 80]) (by simp [results, Try.results7, go_sem]) rfl ⟨none, 0, rfl, Sl.nil_, b1⟩
end Go.Proofs.Ytgfomfioagblfaa
