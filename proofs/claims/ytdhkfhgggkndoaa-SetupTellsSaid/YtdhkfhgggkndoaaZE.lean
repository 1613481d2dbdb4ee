/-
  lumperref07: at, many, part, all.
  Slices of structs of numbers of the call's own: append of one.
  lumperref07: Read.
  What the document's Read tells, by its parts, as the walk finds them. No program here.
  What the document's Read has laid behind its six loops is the setup that the numbers may be.
-/
import Derived.Test.YtdhkfhgggkndoaaZD
import Derived.Test.YtdhkfhgggkndoaaSetRead
import Derived.Test.YtdhkfhgggkndoaaZA
namespace Go.Proofs.Ytdhkfhgggkndoaa
open Go.RowKit
set_option linter.unusedVariables false
set_option linter.unusedSimpArgs false
set_option maxRecDepth 20000

theorem atL_out {l : List Int} {i : Nat} (h : l.length ≤ i) : atL l i = 0 := by simp [atL, List.getD, List.getElem?_eq_none h]
theorem rat_at (A : Option Addr) (n c i : Nat) (l : List Int) (w : World) (hA : Nums w A l) (hn : l.length = n) (hi : i ≤ 1000000) (x : Int) (hx : atL l i = x) :
    Calls Try.prog 34 #[.slice A n c, .int .i64 (i : Int)] w fun e w' => e = .returned (.int .i64 x) ∧ w = w' := by
  subst hx
  by_cases h : i < n
  · obtain ⟨b, o, rfl, z⟩ := hA i (by omega)
    have e0 : (i : Int) < (n : Int) := by omega
    have hs := cell_lt z
    have HE : Hid (atL l i = l.getD i 0) := rfl
    generalize l.getD i 0 = y at *
    clear hA
    go_enter Try.func34, Try.ntmps34
    go_wp2
    go_ret
    exact ⟨ret_one HE.out.symm, rfl⟩
  · have HE := Lib.hid (atL_out (l := l) (i := i) (by omega))
    have e0 : (n : Int) ≤ (i : Int) := by omega
    clear hA
    go_enter Try.func34, Try.ntmps34
    go_wp2
    go_ret
    exact ⟨ret_one HE.out.symm, rfl⟩
theorem atL_pos {l : List Int} (h : ∀ z ∈ l, 0 ≤ z) (i : Nat) : 0 ≤ atL l i := by
  rcases Nat.lt_or_ge i l.length with q | q
  · exact h _ (by simp [atL, List.getD, q])
  · rw [atL_out q]; omega
theorem wpList_min2t {P : Program} {ops : Array Oper} {rest : List Oper} {o : Oper} {a : Act} {w : World} {Q : Exit → Act → World → Prop} {x y : Operand} {ts : Array TypeId} (p q n : Nat) (hn : min p q = n) (hgd : o.guard = none)
    (ho : o.op = .call { callee := .builtin .min, args := #[x, y], argTypes := ts }) (hx : a.eval x = .int .i64 (p : Int)) (hy : a.eval y = .int .i64 (q : Int))
    (h : wpList P ops Q rest (a.put o.dst (.int .i64 (n : Int))) w) : wpList P ops Q (o :: rest) a w := by
  refine wpList_plain hgd fun K hK => ?_
  have e : (if (q : Int) < (p : Int) then (q : Int) else (p : Int)) = (n : Int) := by
    subst hn
    by_cases h1 : (q : Int) < (p : Int)
    · rw [if_pos h1]; omega
    · rw [if_neg h1]; omega
  unfold Oper.wp execOp
  simp only [ho, resolve, invoke, builtin, Sem.run_bind, Sem.run_pure, Result.andThen_ok, List.map_toArray, List.map_cons, List.map_nil, hx, hy, run_min_int2, e]
  exact hK _ _ h
theorem rmany_at (A : Option Addr) (n c i : Nat) (l : List Int) (w : World) (hA : Nums w A l) (hn : l.length = n) (hi : i ≤ 1000000) (hp : ∀ z ∈ l, 0 ≤ z) (k : Nat) (hk : manyL l i = k) :
    Calls Try.prog 35 #[.slice A n c, .int .i64 (i : Int)] w fun e w' => e = .returned (.int .i64 (k : Int)) ∧ w = w' := by
  have h0 := atL_pos hp i
  obtain ⟨x, hx⟩ : ∃ x : Nat, atL l i = (x : Int) := ⟨(atL l i).toNat, by omega⟩
  have HC := Lib.hid (rat_at A n c i l w hA hn hi _ hx)
  have HE : Hid (min x 100 = k) := by
    show _ = _
    rw [← hk, manyL, hx]
    omega
  clear hA hk h0 hx
  go_enter Try.func35, Try.ntmps35
  go_wp2_with fail
  refine HC.out.mono ?_
  rintro e w2 ⟨rfl, rfl⟩
  go_wp2_with (refine wpList_min2t x 100 k HE.out rfl rfl rfl rfl ?_)
  go_ret
  exact ⟨rfl, rfl⟩
theorem rpart_at (A : Option Addr) (n c i : Nat) (l : List Int) (w : World) (hA : Nums w A l) (hn : l.length = n) (hi : i ≤ 100000) (x y : Int) (hx : atL l i = x) (hy : atL l (i + 1) = y) :
    Calls Try.prog 36 #[.slice A n c, .int .i64 (i : Int)] w fun e w' => e = .returned (.agg #[.int .i64 x, .int .i64 y]) ∧ Below w.heap.size w w' := by
  have H1 := Lib.hid (fun wx (hb : Below w.heap.size w wx) => rat_at A n c i l wx (hA.below hb) hn (by omega) x hx)
  have H2 := Lib.hid (fun wx (hb : Below w.heap.size w wx) => rat_at A n c (i + 1) l wx (hA.below hb) hn (by omega) y hy)
  have e1 : ((i + 1 : Nat) : Int) = (i : Int) + 1 := by omega
  rw [e1] at H2
  clear hA hx hy e1
  go_enter Try.func36, Try.ntmps36
  go_wp2_with fail
  refine (H1.out _ (by (repeat' (first | with_reducible exact Below.refl _ _ | with_reducible assumption | with_reducible refine bel_alloc ?_ _ | with_reducible refine bel_set ?_ ?_ _ | with_reducible refine below_drewN ?_ _ | with_reducible refine below_drew ?_ | (simp; done) | (simp; omega) | omega)))).mono ?_
  rintro e w2 ⟨rfl, rfl⟩
  go_wp2_with fail
  refine (H2.out _ (by (repeat' (first | with_reducible exact Below.refl _ _ | with_reducible assumption | with_reducible refine bel_alloc ?_ _ | with_reducible refine bel_set ?_ ?_ _ | with_reducible refine below_drewN ?_ _ | with_reducible refine below_drew ?_ | (simp; done) | (simp; omega) | omega)))).mono ?_
  rintro e w2 ⟨rfl, rfl⟩
  have c0 := (Has.new w 24 #[.int .i64 x, .int .i64 y] rfl).cell 0 rfl
  have c1 := (Has.new w 24 #[.int .i64 x, .int .i64 y] rfl).cell 1 rfl
  go_wp2
  refine bodyPost_ret (v := .agg #[.int .i64 x, .int .i64 y]) (by simp [results, Try.results36, go_sem, c0, c1]) rfl ⟨rfl, ?_⟩
  (repeat' (first | with_reducible exact Below.refl _ _ | with_reducible assumption | with_reducible refine bel_alloc ?_ _ | with_reducible refine bel_set ?_ ?_ _ | with_reducible refine below_drewN ?_ _ | with_reducible refine below_drew ?_ | (simp; done) | (simp; omega) | omega))
/-! ### all -/
theorem take_shorter {b r : List (BitVec 8)} {n : Nat} (h : takeB b = some (n, r)) : r.length < b.length := by
  obtain ⟨rfl, _⟩ := take_own h
  have := @one_len n
  rw [List.length_append]
  omega
theorem allNum_fuel : ∀ (f g : Nat) (b : List (BitVec 8)), b.length < f → b.length < g → allNum f b = allNum g b
  | 0, _, _, h, _ => by omega
  | _ + 1, 0, _, _, h => by omega
  | f + 1, g + 1, b, hf, hg => by
    unfold allNum
    by_cases h0 : b.length = 0
    · rw [if_pos h0, if_pos h0]
    · rw [if_neg h0, if_neg h0]
      cases ht : takeB b with
      | none => rfl
      | some x =>
        obtain ⟨n, r⟩ := x
        have := take_shorter ht
        simp only
        rw [allNum_fuel f g r (by omega) (by omega)]
def allN (b : List (BitVec 8)) : Option (List Int) := allNum (b.length + 1) b
theorem allN_nil : allN [] = some [] := rfl
theorem allN_none {b : List (BitVec 8)} (h0 : 0 < b.length) (ht : takeB b = none) : allN b = none := by
  unfold allN allNum
  rw [if_neg (by omega), ht]
theorem allN_some {b r : List (BitVec 8)} {n : Nat} (ht : takeB b = some (n, r)) : allN b = (allN r).map ((n : Int) :: ·) := by
  have := take_shorter ht
  unfold allN
  rw [allNum_fuel (r.length + 1) b.length r (by omega) this]
  conv => lhs; unfold allNum
  rw [if_neg (by omega), ht]
set_option maxHeartbeats 4000000 in
theorem rall_any (B : Option Addr) (m d : Nat) (b : List (BitVec 8)) (w : World) (hb0 : Sl 1 w B m d (bytesV b)) (hmd : m ≤ d) (hm : m ≤ 2000) (L : List Int) (n : Nat) (hL : (allN b).getD [] = L) (hn : L.length = n) :
    Calls Try.prog 33 #[.slice B m d] w fun e w' => ∃ A c, e = .returned (.slice A n c) ∧ NRow w' w.heap.size A c L ∧ Below w.heap.size w w' := by
  have hbl := hb0.blen
  have HB := Lib.hid hb0
  have HL := Lib.hid hL
  have HN := Lib.hid hn
  clear hb0 hL hn
  go_enter Try.func33, Try.ntmps33
  go_wp2
  go_loopw [0, 3] (fun vb vo wr => ∃ (R : Option Addr) (q e : Nat) (r : List (BitVec 8)) (A : Option Addr) (c : Nat) (D : List Int) (k : Nat), vb = .slice R q e ∧ vo = .slice A k c ∧ r.length = q ∧ q ≤ e ∧ q ≤ 2000 ∧ k + q ≤ 2000 ∧ D.length = k ∧ Hid (∀ w0, Sl 1 w0 B m d (bytesV b) → Sl 1 w0 R q e (bytesV r)) ∧ Hid (allN b = (allN r).map (D ++ ·)) ∧ NRow wr w.heap.size A c D ∧ Below w.heap.size w wr) (fun vb _ _ => match vb with | .slice _ q _ => q | _ => 0)
  case atStart => exact ⟨B, m, d, b, none, 0, [], 0, rfl, rfl, hbl, hmd, hm, by omega, rfl, Lib.hid (fun _ h => h), by show _ = _; simp, NRow.nil _ _, Below.refl _ _⟩
  case round =>
    obtain ⟨R, q, e, r, A, c, D, k, rfl, rfl, hrl, hqe, hq, hkq, hDk, hlay, hal, hrow, hbw⟩ := hrel
    rcases Nat.eq_zero_or_pos q with h0 | h0
    · subst h0
      obtain rfl : r = [] := List.eq_nil_of_length_eq_zero hrl
      have HD : Hid (D = L) := by
        show _ = _
        rw [← HL.out, hal.out, allN_nil]
        simp
      have hDe := HD.out
      subst hDe
      have hkn : k = n := by rw [← HN.out, hDk]
      subst hkn
      go_wp2
      go_ret
      exact ⟨A, c, rfl, hrow, hbw⟩
    · have hpos : (0 : Int) < (q : Int) := by omega
      have hsl := hlay.out wr (HB.out.below hbw)
      cases ht : takeB r with
      | none =>
        have HC := Lib.hid (rtake_bad R q e r wr (byts_of_sl hsl) hrl ht)
        have HE : Hid (L = []) := by
          show _ = _
          rw [← HL.out, hal.out, allN_none (by omega) ht]
          rfl
        have hLe := HE.out
        have hn0 : n = 0 := by rw [← HN.out, hLe]; rfl
        subst hn0
        clear ht hsl
        go_wp2_with fail
        refine HC.out.mono ?_
        rintro e2 w2 ⟨rfl, rfl⟩
        go_wp2
        go_ret
        exact ⟨none, 0, rfl, by rw [hLe]; exact NRow.nil _ _, hbw⟩
      | some x =>
        obtain ⟨v, t⟩ := x
        have hsh := take_shorter ht
        obtain ⟨u, hu⟩ : ∃ u, t.length = u := ⟨_, rfl⟩
        have HC := Lib.hid (rtake_all R q e r t v u wr hsl (by omega) hqe ht hu)
        have HAL : Hid (allN b = (allN t).map ((D ++ [(v : Int)]) ++ ·)) := by
          show _ = _
          rw [hal.out, allN_some ht]
          cases allN t <;> simp
        clear ht hsl hal
        go_wp2_with fail
        refine HC.out.mono ?_
        rintro e2 w2 ⟨R2, e3, rfl, hl2, hc2, b2⟩
        have hrow2 := hrow.below b2
        replace b2 := bel_on hbw b2
        obtain ⟨A5, c5, w5, hr5, hrow5, hbel5⟩ := nrow_lay hrow2 (ys := [(v : Int)]) hDk (k := 1) rfl (by omega) b2.size (s := w2.heap.size) rfl
        have HR5 : Hid ((Builtin.append_ #[27, 27] 27 #[.slice A k c, .slice (some ⟨w2.heap.size, 0, none⟩) 1 1]).run Try.prog (w2.alloc (.cells #[.int .i64 (v : Int)] 3)) = .ok (.slice A5 (k + 1) c5) w5) := hr5
        have hb5 := hbel5 w (Nat.le_refl _) b2
        have hD5 : (D ++ [(v : Int)]).length = k + 1 := by rw [List.length_append, hDk]; rfl
        have HLAY : Hid (∀ w0, Sl 1 w0 B m d (bytesV b) → Sl 1 w0 R2 u e3 (bytesV t)) := fun w0 h => hl2 w0 (hlay.out w0 h)
        clear hr5 hbel5 hl2 hlay hrow hrow2 HC
        go_wp2_with (at_builtin; refine wpList_append_run (o := ⟨some 21, _, _, _, _, _⟩) HR5.out rfl rfl rfl rfl ?_)
        go_roundw
        case rel => exact ⟨R2, u, e3, t, A5, c5, D ++ [(v : Int)], k + 1, rfl, rfl, hu, hc2, by omega, by omega, hD5, HLAY, HAL, hrow5, hb5⟩
        case measure => simp; omega
end Go.Proofs.Ytdhkfhgggkndoaa

namespace Go.Proofs.Ytdhkfhgggkndoaa
open Go.RowKit
set_option linter.unusedVariables false
set_option linter.unusedSimpArgs false

/-- A slice of n structs of k numbers, of the call's own, that lies at 'base' or behind. -/
def TRow (e : TypeId) (k : Nat) (w : World) (base : Nat) (A : Option Addr) (n c : Nat) (rows : Rows2) : Prop :=
  w.ownsRow base e k (.slice A n c) n (ints .i64 rows.flatten)
section
variable {e : TypeId} {k : Nat} {w w' : World} {base n c : Nat} {A : Option Addr} {rows : Rows2}
theorem TRow.nil (w : World) (base : Nat) : TRow e k w base none 0 0 [] := World.ownsRow_nil w base _ _
theorem TRow.keep (h : TRow e k w base A n c rows) (hk : ∀ g, A = some g → w'.heap[g.block]? = w.heap[g.block]?) : TRow e k w' base A n c rows := by
  obtain ⟨hl, hn | ⟨g, cap, cur, hv, hg, hh, rest⟩⟩ := h
  · exact ⟨hl, .inl hn⟩
  · injection hv with e1 e2 e3
    subst e1
    exact ⟨hl, .inr ⟨g, cap, cur, by rw [e3], hg, (hk _ rfl).trans hh, rest⟩⟩
theorem TRow.lt (h : TRow e k w base A n c rows) : ∀ g, A = some g → base ≤ g.block ∧ g.block < w.heap.size := by
  rintro g rfl
  exact World.ownsRow.lt h _ rfl
theorem TRow.below (h : TRow e k w base A n c rows) (hb : Below w.heap.size w w') : TRow e k w' base A n c rows :=
  h.keep fun g hg => hb.block _ (h.lt g hg).2
theorem TRow.alloc (h : TRow e k w base A n c rows) (o : Obj) : TRow e k (w.alloc o) base A n c rows := World.ownsRow.alloc h o
theorem TRow.drew (h : TRow e k w base A n c rows) : TRow e k w.drew base A n c rows := h
theorem TRow.set (h : TRow e k w base A n c rows) {p : Addr} (hp : p.block < base) (v : Value) : TRow e k (w.setCell p v) base A n c rows :=
  h.keep fun g hg => Below.heap_setCell w p v g.block (by have := (h.lt g hg).1; omega)
theorem TRow.caps (h : TRow e k w base A n c rows) : n ≤ c ∧ c ≤ 9223372036854775807 := by
  obtain ⟨hl, ⟨hv, hz⟩ | ⟨g, cap, cur, hv, hb, hh, hc, hm, _⟩⟩ := h
  · injection hv with e1 e2 e3
    omega
  · injection hv with e1 e2 e3
    simp only [maxLen] at hm
    omega
theorem TRow.tab (h : TRow e k w base A n c rows) (hn : rows.length = n) (hw : ∀ r ∈ rows, r.length = k) (hs : ∀ r ∈ rows, ∀ z ∈ r, In64 z) : Tab k w A n c rows :=
  ⟨Sl.of_own h, hn, hw, hs, h.caps.1, h.caps.2⟩
end
/-- One more, laid for it. -/
theorem trow_lay {t e : TypeId} {k : Nat} {z : Value} (ht : Try.prog.underlying t = some (.slice e)) (hinfo : (Try.prog.info? e).map (fun i => (i.zero, i.size, i.bytes)) = some (some z, k, 8 * k)) (hz : z.cells.size = k) (hk : 0 < k) (hk4 : k ≤ 4)
    {w : World} {base n c : Nat} {A : Option Addr} {rows : Rows2} (h : TRow e k w base A n c rows) (r : List Int) (hr : r.length = k) (hn : n ≤ 1000) (hbase : base ≤ w.heap.size) {G : Prop}
    (kk : ∀ A' c' w', (Builtin.append_ #[t, t] t #[.slice A n c, .slice (some ⟨w.heap.size, 0, none⟩) 1 1]).run Try.prog (w.alloc (.cells (ints .i64 r).toArray e)) = .ok (.slice A' (n + 1) c') w' → TRow e k w' base A' (n + 1) c' (rows ++ [r]) → Kept (fun b => b < base) w w' → G) : G := by
  have hs : Sl k (w.alloc (.cells (ints .i64 r).toArray e)) (some ⟨w.heap.size, 0, none⟩) 1 1 (ints .i64 r) :=
    Sl.of_own (own_new w e k 1 (ints .i64 r).toArray (by simp [ints, hr]) (by simp only [maxLen]; omega))
  have hb : (n + 1) * (8 * k) ≤ 1001 * 32 := Nat.mul_le_mul (by omega) (by omega)
  obtain ⟨A', c', w', h1, h2, hg, hl⟩ := append_any (P := Try.prog) (w.alloc (.cells (ints .i64 r).toArray e)) base t t e z k (8 * k) ht hinfo hz hk (World.ownsRow.alloc h _) hs (ints_one .i64 r) (n + 1) rfl (ints .i64 (rows ++ [r]).flatten) (by simp [ints]) (by omega) (by omega) (by simp; omega)
  refine kk A' c' w' h1 h2 (kept_grown (Kept.of_below (bel_alloc (Below.refl _ _) _) fun b hb => by omega) hg (fun ad had => ?_) (fun b hb => by simp; omega))
  have := (h.lt ad had).1
  omega
theorem way_info : (Try.prog.info? 55).map (fun i => (i.zero, i.size, i.bytes)) = some (some (.agg #[.int .i64 0, .int .i64 0, .int .i64 0]), 3, 24) := by kernel_rfl
theorem element_info : (Try.prog.info? 72).map (fun i => (i.zero, i.size, i.bytes)) = some (some (.agg #[.int .i64 0, .int .i64 0, .int .i64 0, .int .i64 0]), 4, 32) := by kernel_rfl
theorem ratio_info : (Try.prog.info? 24).map (fun i => (i.zero, i.size, i.bytes)) = some (some (.agg #[.int .i64 0, .int .i64 0]), 2, 16) := by kernel_rfl
theorem tier_info : (Try.prog.info? 74).map (fun i => (i.zero, i.size, i.bytes)) = some (some (.agg #[.int .i64 0, .int .i64 0]), 2, 16) := by kernel_rfl
theorem set_set (cs : Array Value) (o : Nat) (u v : Value) : (cs.setIfInBounds o u).setIfInBounds o v = cs.setIfInBounds o v := by simp
/-- Rows read off a list of numbers, one more. -/
theorem rowsAt_succ (l : List Int) (p k j : Nat) : rowsAt l p k (j + 1) = rowsAt l p k j ++ [(List.range k).map fun i => atL l (p + k * j + i)] := by
  simp [rowsAt, List.range_succ]
theorem rowsAt_len (l : List Int) (p k j : Nat) : (rowsAt l p k j).length = j := by simp [rowsAt]
end Go.Proofs.Ytdhkfhgggkndoaa

namespace Go.Proofs.Ytdhkfhgggkndoaa
open Go.RowKit
set_option linter.unusedVariables false
set_option linter.unusedSimpArgs false
set_option maxRecDepth 100000

section
variable {A : Option Addr} {n c : Nat} {l : List Int} {w : World}
theorem rat_i (hA : Nums w A l) (hn : l.length = n) (i : Int) (k : Nat) (hk : i = (k : Int)) (hk2 : k ≤ 100000) (x : Int) (hx : atL l k = x) :
    Calls Try.prog 34 #[.slice A n c, .int .i64 i] w fun e w' => e = .returned (.int .i64 x) ∧ w = w' := by
  subst hk
  exact rat_at A n c k l w hA hn (by omega) x hx
theorem rmany_i (hA : Nums w A l) (hn : l.length = n) (hp : ∀ z ∈ l, 0 ≤ z) (i : Int) (k : Nat) (hk : i = (k : Int)) (hk2 : k ≤ 100000) (x : Nat) (hx : manyL l k = x) :
    Calls Try.prog 35 #[.slice A n c, .int .i64 i] w fun e w' => e = .returned (.int .i64 (x : Int)) ∧ w = w' := by
  subst hk
  exact rmany_at A n c k l w hA hn (by omega) hp x hx
theorem rpart_i (hA : Nums w A l) (hn : l.length = n) (i : Int) (k : Nat) (hk : i = (k : Int)) (hk2 : k ≤ 10000) (x y : Int) (hx : atL l k = x) (hy : atL l (k + 1) = y) :
    Calls Try.prog 36 #[.slice A n c, .int .i64 i] w fun e w' => e = .returned (.agg #[.int .i64 x, .int .i64 y]) ∧ Below w.heap.size w w' := by
  subst hk
  exact rpart_at A n c k l w hA hn (by omega) x y hx hy
end
theorem many_le (l : List Int) (i : Nat) : manyL l i ≤ 100 := by unfold manyL; omega
theorem readE_parse (b : List (BitVec 8)) : readE b = (open Classical in if (parseR ((allN b).getD [])).May ∧ (parseR ((allN b).getD [])).bytes = b then (parseR ((allN b).getD []), (0 : Int)) else (SetP.none, 70)) := by
  obtain ⟨h1, h2⟩ := read_ref b (parse_wide _)
  unfold readE
  cases hr : readS b with
  | some s =>
    obtain ⟨e, h3, h4⟩ := h1 s hr
    have e' : s = parseR ((allN b).getD []) := e
    rw [← e', if_pos ⟨h3, h4⟩]
  | none =>
    have h3 : ¬ ((parseR ((allN b).getD [])).May ∧ (parseR ((allN b).getD [])).bytes = b) := h2 hr
    rw [if_neg h3]
theorem allN_ok (b : List (BitVec 8)) : okN ((allN b).getD []) := by
  cases h : allN b with
  | none => exact fun n hn => by simp at hn
  | some l => exact (allNum_own _ _ _ h).1
theorem atL_in {l : List Int} (h : okN l) (i : Nat) : In64 (atL l i) := by
  rcases Nat.lt_or_ge i l.length with q | q
  · have := h (l.getD i 0) (by simp [List.getD, q])
    exact ⟨by unfold atL; omega, this.2⟩
  · rw [atL_out q]; exact ⟨by omega, by omega⟩
theorem rowsAt_small {l : List Int} (h : okN l) (p k n : Nat) : ∀ r ∈ rowsAt l p k n, ∀ z ∈ r, In64 z := by
  intro r hr z hz
  simp only [rowsAt, List.mem_map] at hr
  obtain ⟨i, _, rfl⟩ := hr
  simp only [List.mem_map] at hz
  obtain ⟨j, _, rfl⟩ := hz
  exact atL_in h _
def FB (W : World) (B : Nat) (b : Nat) : Prop := b < W.heap.size ∧ b ≠ B
theorem fb_on {W0 W w : World} {B : Nat} (h0 : Kept (FB W0 B) W0 W) (h : Kept (FB W B) W w) : Kept (FB W0 B) W0 w := h0.on (h.less fun b hb => ⟨Nat.lt_of_lt_of_le hb.1 h0.size, hb.2⟩)
theorem fb_below {W0 w w' : World} {B : Nat} (h0 : Kept (FB W0 B) W0 w) (hb : Below w.heap.size w w') : Kept (FB W0 B) W0 w' := h0.on (Kept.of_below hb fun b hb => Nat.lt_of_lt_of_le hb.1 h0.size)
theorem fb_set {W0 w : World} {B : Nat} (h0 : Kept (FB W0 B) W0 w) (i : Nat) (v : Value) : Kept (FB W0 B) W0 (w.setCell ⟨B, i, none⟩ v) := h0.set (fun h => h.2 rfl) v
theorem fb_low {W0 w w' : World} {B : Nat} (h0 : Kept (FB W0 B) W0 w) (hk : Kept (fun b => b < W0.heap.size) w w') : Kept (FB W0 B) W0 w' := h0.on (hk.less fun b hb => hb.1)
theorem fb_tab {W w : World} {B k n c : Nat} {A : Option Addr} {t : Rows2} (h : Tab k W A n c t) (hk : 0 < k) (hB : 0 < n → ∀ a, A = some a → a.block ≠ B) (h0 : Kept (FB W B) W w) : Tab k w A n c t :=
  h.blocks2 fun hn a ha => h0.block _ ⟨h.blk hk hn a ha, hB hn a ha⟩
end Go.Proofs.Ytdhkfhgggkndoaa

namespace Go.Proofs.Ytdhkfhgggkndoaa
set_option linter.unusedVariables false

theorem parse_parts {l : List Int} {n1 n2 n3 n4 n5 n6 p1 p2 p3 p4 p5 p6 q2 q3 q4 q5 : Nat} (h1 : manyL l 1 = n1) (hp1 : p1 = 2 + 3 * n1) (h2 : manyL l (p1 + 2) = n2) (hp2 : p1 + 3 = p2) (hq2 : q2 = p2 + 4 * n2)
    (h3 : manyL l q2 = n3) (hp3 : q2 + 1 = p3) (hq3 : q3 = p3 + 2 * n3) (h4 : manyL l q3 = n4) (hp4 : q3 + 1 = p4) (hq4 : q4 = p4 + 2 * n4) (h5 : manyL l (q4 + 11) = n5) (hp5 : q4 + 12 = p5) (hq5 : q5 = p5 + 1 * n5)
    (h6 : manyL l (q5 + 3) = n6) (hp6 : q5 + 4 = p6) :
    parseR l = ⟨atL l 0, rowsAt l 2 3 n1, atL l p1, atL l (p1 + 1), rowsAt l p2 4 n2, rowsAt l p3 2 n3, rowsAt l p4 2 n4,
      atL l q4, atL l (q4 + 1), atL l (q4 + 2), atL l (q4 + 3), atL l (q4 + 4), atL l (q4 + 5), atL l (q4 + 6), atL l (q4 + 7), atL l (q4 + 8), atL l (q4 + 9), atL l (q4 + 10),
      (List.range n5).map (fun i => atL l (p5 + i)), atL l q5, atL l (q5 + 1), atL l (q5 + 2), rowsAt l p6 2 n6⟩ := by
  rw [Nat.one_mul] at hq5
  subst hp1 hp2 hq2 hp3 hq3 hp4 hq4 hp5 hq5 hp6
  subst h1
  subst h2
  subst h3
  subst h4
  subst h5
  subst h6
  rfl
theorem rows_one (l : List Int) (p n : Nat) : rowsAt l p 1 n = ((List.range n).map fun i => atL l (p + i)).map fun z => [z] := by
  unfold rowsAt
  rw [List.map_map]
  apply List.map_congr_left
  intro i _
  simp
end Go.Proofs.Ytdhkfhgggkndoaa

namespace Go.Proofs.Ytdhkfhgggkndoaa
open Go.RowKit
set_option linter.unusedVariables false
set_option linter.unusedSimpArgs false
set_option maxRecDepth 20000

theorem rowsAt_w (l : List Int) (p k n : Nat) : ∀ r ∈ rowsAt l p k n, r.length = k := by
  intro r hr
  simp only [rowsAt, List.mem_map] at hr
  obtain ⟨i, _, rfl⟩ := hr
  simp
theorem trow_at {e : TypeId} {k : Nat} {w : World} {b n c : Nat} {A : Option Addr} {r : Rows2} {L : List Int} {p : Nat} (hok : okN L) (h : TRow e k w b A n c r) (hr : r = rowsAt L p k n) : Tab k w A n c (rowsAt L p k n) := by
  subst hr
  exact h.tab (rowsAt_len _ _ _ _) (rowsAt_w _ _ _ _) (rowsAt_small hok _ _ _)
theorem read_setc {w : World} {L : List Int} (hok : okN L) {A1 A2 A3 A4 A5 A6 : Option Addr} {c1 c2 c3 c4 c5 c6 n1 n2 n3 n4 n5 n6 b1 b2 b3 b4 b5 b6 p1 p2 p3 p4 p5 p6 q2 q3 q4 q5 : Nat} {r1 r2 r3 r4 r5 r6 : Rows2} {T1 T2 T3 T4 T5 T6 : TypeId}
    (t1 : TRow T1 3 w b1 A1 n1 c1 r1) (e1 : r1 = rowsAt L 2 3 n1) (t2 : TRow T2 4 w b2 A2 n2 c2 r2) (e2 : r2 = rowsAt L p2 4 n2) (t3 : TRow T3 2 w b3 A3 n3 c3 r3) (e3 : r3 = rowsAt L p3 2 n3)
    (t4 : TRow T4 2 w b4 A4 n4 c4 r4) (e4 : r4 = rowsAt L p4 2 n4) (t5 : TRow T5 1 w b5 A5 n5 c5 r5) (e5 : r5 = rowsAt L p5 1 n5) (t6 : TRow T6 2 w b6 A6 n6 c6 r6) (e6 : r6 = rowsAt L p6 2 n6)
    (h1 : manyL L 1 = n1) (hp1 : p1 = 2 + 3 * n1) (h2 : manyL L (p1 + 2) = n2) (hp2 : p1 + 3 = p2) (hq2 : q2 = p2 + 4 * n2)
    (h3 : manyL L q2 = n3) (hp3 : q2 + 1 = p3) (hq3 : q3 = p3 + 2 * n3) (h4 : manyL L q3 = n4) (hp4 : q3 + 1 = p4) (hq4 : q4 = p4 + 2 * n4) (h5 : manyL L (q4 + 11) = n5) (hp5 : q4 + 12 = p5) (hq5 : q5 = p5 + 1 * n5)
    (h6 : manyL L (q5 + 3) = n6) (hp6 : q5 + 4 = p6) {x y z0 z1 z2 z3 z4 z5 z6 z7 z8 z9 z10 y0 y1 y2 : Int} (hxy : atL L p1 = x ∧ atL L (p1 + 1) = y)
    (k0 : atL L (q4 + 0) = z0) (k1 : atL L (q4 + 1) = z1) (k2 : atL L (q4 + 2) = z2) (k3 : atL L (q4 + 3) = z3) (k4 : atL L (q4 + 4) = z4) (k5 : atL L (q4 + 5) = z5) (k6 : atL L (q4 + 6) = z6) (k7 : atL L (q4 + 7) = z7) (k8 : atL L (q4 + 8) = z8) (k9 : atL L (q4 + 9) = z9) (k10 : atL L (q4 + 10) = z10)
    (m0 : atL L (q5 + 0) = y0) (m1 : atL L (q5 + 1) = y1) (m2 : atL L (q5 + 2) = y2) :
    SetC w (parseR L) #[.int .i64 (atL L 0), .slice A1 n1 c1, .int .i64 x, .int .i64 y, .slice A2 n2 c2, .slice A3 n3 c3, .slice A4 n4 c4, .int .i64 z0, .int .i64 z1, .int .i64 z2, .int .i64 z3, .int .i64 z4, .int .i64 z5, .int .i64 z6, .int .i64 z7, .int .i64 z8, .int .i64 z9, .int .i64 z10, .slice A5 n5 c5, .int .i64 y0, .int .i64 y1, .int .i64 y2, .slice A6 n6 c6] ∧ (parseR L).Fit := by
  rw [parse_parts h1 hp1 h2 hp2 hq2 h3 hp3 hq3 h4 hp4 hq4 h5 hp5 hq5 h6 hp6]
  obtain ⟨rfl, rfl⟩ := hxy
  subst k0 k1 k2 k3 k4 k5 k6 k7 k8 k9 k10 m0 m1 m2
  have t5' := trow_at hok t5 e5
  rw [rows_one] at t5'
  refine ⟨⟨A1, A2, A3, A4, A5, A6, c1, c2, c3, c4, c5, c6, ?_, ?_⟩, ?_⟩
  · simp only [setV, rowsAt_len, List.length_map, List.length_range, Nat.add_zero]
  · refine ⟨?_, ?_, ?_, ?_, ?_, ?_⟩
    · simp only [rowsAt_len]; exact trow_at hok t1 e1
    · simp only [rowsAt_len]; exact trow_at hok t2 e2
    · simp only [rowsAt_len]; exact trow_at hok t3 e3
    · simp only [rowsAt_len]; exact trow_at hok t4 e4
    · simp only [List.length_map, List.length_range]; exact t5'
    · simp only [rowsAt_len]; exact trow_at hok t6 e6
  · constructor <;> simp only <;> first | exact atL_in hok _ | skip
end Go.Proofs.Ytdhkfhgggkndoaa
