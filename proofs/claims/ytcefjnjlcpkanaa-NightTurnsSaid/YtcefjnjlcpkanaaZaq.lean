/-
  The days that have some: how they are put, one by one.
  The calls whose answers layer 11's document fixes: they are as it says; two lists of numbers that are the same.
  Package night: the hours by night of any day, and how they are put on a day.
-/
import Derived.Test.YtcefjnjlcpkanaaZad
import Derived.Test.YtcefjnjlcpkanaaZan
import Derived.Test.YtcefjnjlcpkanaaZap
import Derived.Test.YtcefjnjlcpkanaaZaa
import Derived.Test.YtcefjnjlcpkanaaZab
import Derived.Test.YtcefjnjlcpkanaaZai
import Derived.Test.YtcefjnjlcpkanaaZal
namespace Go.Proofs.Ytcefjnjlcpkanaa
open Go.RowKit
set_option linter.unusedVariables false
set_option linter.unusedSimpArgs false
set_option maxRecDepth 20000

/-! ### A number more -/
theorem NRow.far {w : World} {base c : Nat} {A : Option Addr} {xs : List Int} (h : NRow w base A c xs) {p : Addr} (hp : ∀ g, A = some g → g.block ≠ p.block) (u : Value) : NRow (w.setCell p u) base A c xs :=
  h.keep fun g hg => Below.heap_setCell w p u _ (hp g hg)

end Go.Proofs.Ytcefjnjlcpkanaa

namespace Go.Proofs.Ytcefjnjlcpkanaa
open Go.RowKit
set_option linter.unusedVariables false
set_option linter.unusedSimpArgs false
set_option maxRecDepth 20000

/-- In a walk: a whole setup is read. -/
theorem wpList_load_sp {ops : Array Oper} {rest : List Oper} {o : Oper} {a : Act} {w : World} {Q : Exit → Act → World → Prop} (hgd : Region.wanted o (yielded ops a.tmps) = true) (x : Operand) (ho : o.op = .load 30 x)
    (g : Nat) (hx : a.eval x = .pointer (some ⟨g, 0, none⟩)) (cs : Array Value) (hg : Has w g cs) (hs : cs.size = 23)
    (h : wpList Try.prog ops Q rest (a.put o.dst (.agg cs)) w) : wpList Try.prog ops Q (o :: rest) a w := by
  refine wpList_step fun K hK => ?_
  rw [if_pos hgd]
  obtain ⟨t, hg⟩ := hg
  exact wp_load_row _ x ho g hx t cs (0, 0) _ hg Try.underlying30 rfl (by rw [hs]; kernel_rfl) (hK _ _ h)
end Go.Proofs.Ytcefjnjlcpkanaa

namespace Go.Proofs.Ytcefjnjlcpkanaa
open Go.RowKit
set_option linter.unusedVariables false
set_option linter.unusedSimpArgs false
set_option maxRecDepth 20000

theorem setC_night {w : World} {s : SetP} {cs : Array Value} (h : SetC w s cs) : cs[16]? = some (.int .i64 s.nfrom) ∧ cs[17]? = some (.int .i64 s.nto) := by
  obtain ⟨A1, A2, A3, A4, A5, A6, c1, c2, c3, c4, c5, c6, h1, h2⟩ := h
  unfold setV at h1
  injection h1 with h1
  subst h1
  exact ⟨rfl, rfl⟩
theorem nw_of {s : SetP} {b : Bool} (hb : checkB s = b) : NW b s.nfrom s.nto := fun h => by
  have := check_iff.1 (hb.trans h)
  exact ⟨this.nfrom, this.nto⟩
/-- A literal slice of spans is a row of the call's own. -/
theorem row_new (w : World) (xs : List (Int × Int)) (cs : Array Value) (hcs : cs = (cells2 xs).toArray) (hl : xs.length ≤ 1000) {n : Nat} (hn : n = xs.length) {base : Nat} (hb : base ≤ w.heap.size) {s : Nat} (hs : w.heap.size = s) :
    Row (w.alloc (.cells cs 41)) base (some ⟨s, 0, none⟩) n xs := by
  subst hs
  subst hn
  subst hcs
  have := own_new w 41 2 xs.length (cells2 xs).toArray (by simp [cells2_len]) (by simp only [maxLen]; omega)
  have h2 : Row (w.alloc (.cells (cells2 xs).toArray 41)) w.heap.size (some ⟨w.heap.size, 0, none⟩) xs.length xs := this
  exact h2.mono hb
set_option maxHeartbeats 2000000 in
theorem ofany_c {w : World} {s : SetP} {cs : Array Value} (h : SetC w s cs) (hf : s.Fit) (b : Bool) (hb : checkB s = b) :
    Calls Try.prog 20 #[.agg cs] w (Gives w (hoursL b s.nfrom s.nto)) := by
  have HZ := Lib.hid h.size
  obtain ⟨q16, q17⟩ := setC_night h
  have hb0 := bel_alloc (Below.refl w.heap.size w) (.cells cs 30)
  have HB0 := Lib.hid (Has.new w 30 cs rfl)
  have HC := Lib.hid (scheck_c (h.below hb0) hf b hb)
  generalize s.nfrom = f at *
  generalize s.nto = g at *
  clear h hf hb
  cases b with
  | false =>
    go_enter Try.func20, Try.ntmps20
    go_wp2_with (refine wpList_load_sp (by rfl) _ rfl w.heap.size rfl cs HB0.out HZ.out ?_)
    refine HC.out.mono ?_
    rintro e w1 ⟨rfl, b1⟩
    have HB1 := Lib.hid (bel_on hb0 b1)
    clear b1 hb0
    go_wp2
    go_ret
    exact gives_of (ys := []) (Row.nil _ _) rfl rfl HB1.out
  | true =>
    by_cases q : g < f
    · have HE : Hid (hoursL true f g = [(0, g), (f, 86400)]) := by show _ = _; unfold hoursL; rw [if_pos rfl, if_pos q]
      rw [HE.out]
      go_enter Try.func20, Try.ntmps20
      go_wp2_with (refine wpList_load_sp (by rfl) _ rfl w.heap.size rfl cs HB0.out HZ.out ?_)
      refine HC.out.mono ?_
      rintro e w1 ⟨rfl, b1⟩
      have HB1 := Lib.hid (bel_on hb0 b1)
      have c16 := (HB0.out.below b1).cell 16 q16
      have c17 := (HB0.out.below b1).cell 17 q17
      have hbw : w.heap.size < w1.heap.size := (HB0.out.below b1).size
      have HR := Lib.hid (row_new w1 [(0, g), (f, 86400)] #[.int .i64 0, .int .i64 g, .int .i64 f, .int .i64 86400] rfl (by simp) rfl (base := w.heap.size) (by omega) rfl)
      clear b1 hb0
      go_wp2
      go_ret
      exact gives_of HR.out rfl rfl (bel_alloc HB1.out _)
    · have HE : Hid (hoursL true f g = [(f, g)]) := by show _ = _; unfold hoursL; rw [if_pos rfl, if_neg q]
      rw [HE.out]
      go_enter Try.func20, Try.ntmps20
      go_wp2_with (refine wpList_load_sp (by rfl) _ rfl w.heap.size rfl cs HB0.out HZ.out ?_)
      refine HC.out.mono ?_
      rintro e w1 ⟨rfl, b1⟩
      have HB1 := Lib.hid (bel_on hb0 b1)
      have c16 := (HB0.out.below b1).cell 16 q16
      have c17 := (HB0.out.below b1).cell 17 q17
      have hbw : w.heap.size < w1.heap.size := (HB0.out.below b1).size
      have HR := Lib.hid (row_new w1 [(f, g)] #[.int .i64 f, .int .i64 g] rfl (by simp) rfl (base := w.heap.size) (by omega) rfl)
      clear b1 hb0
      go_wp2
      go_ret
      exact gives_of HR.out rfl rfl (bel_alloc HB1.out _)

/-! ### A span more -/
theorem row_one {w : World} {base c : Nat} {A : Option Addr} {xs : List (Int × Int)} (h : Row w base A c xs) {n : Nat} (hn : xs.length = n) (a b : Int) (hm : n ≤ 1000000) (hbase : base ≤ w.heap.size) {s : Nat} (hs : w.heap.size = s) :
    ∃ A' c' w', (Builtin.append_ #[31, 31] 31 #[.slice A n c, .slice (some ⟨s, 0, none⟩) 1 1]).run Try.prog (w.alloc (.cells #[.int .i64 a, .int .i64 b] 41)) = .ok (.slice A' (n + 1) c') w' ∧ Row w' base A' c' (xs ++ [(a, b)]) ∧ Kept (fun b => b < base) w w' := by
  subst hn
  obtain ⟨A', c', w', hr, ho, _, hsz, hg, hl⟩ := row_push h a b (by omega) hbase hs
  refine ⟨A', c', w', hr, ho, ⟨hg.os, hg.tape, hg.output, hsz, fun k hk => ?_⟩⟩
  rw [hg.block k (by simp; omega) ?_]
  · exact Below.heap_alloc w _ k (by omega)
  · intro e
    cases A with
    | none => simp [Value.ownBlock] at e
    | some a0 =>
      simp [Value.ownBlock] at e
      have := (h.lt a0 rfl).1
      omega
theorem Kept.setn {F : Nat → Prop} {a w : World} (h : Kept F a w) {p : Addr} (hp : ¬ F p.block) (v : Value) : Kept F a (w.setCell p v) := by
  refine ⟨h.os, h.tape, h.output, ?_, fun b hb => ?_⟩
  · have := Kept.size h
    simp [World.setCell]
    exact this
  · rw [Below.heap_setCell w p v b (by rintro rfl; exact hp hb)]
    exact h.block b hb
theorem wrapn_id {a : Int} (h0 : -9223372036854775808 ≤ a) (h1 : a < 9223372036854775808) : IntKind.i64.wrap a = a := by
  simp [IntKind.wrap, IntKind.bits, IntKind.signed]
  split <;> omega
theorem spans_kept {F : Nat → Prop} {w w' : World} {A : Option Addr} {xs : List (Int × Int)} (h : Spans w A xs) (k : Kept F w w') (hF : ∀ g, A = some g → F g.block) : Spans w' A xs := by
  refine ⟨h.1, fun i hi => ?_⟩
  obtain ⟨b, off, rfl, h0, h1, h2⟩ := h.2 i hi
  have e := k.block b (hF _ rfl)
  exact ⟨b, off, rfl, Nat.lt_of_lt_of_le h0 (Kept.size k), (World.cell?_of_block e).trans h1, (World.cell?_of_block e).trans h2⟩

set_option maxHeartbeats 2000000 in
theorem put_night (m : Int) (gH gN : Nat) (H : Option Addr) (cH n : Nat) (hs : List (Int × Int)) (A : Option Addr) (c : Nat) (xs : List (Int × Int)) (base : Nat) (w : World) (hH : Has w gH #[.slice H n cH]) (hn : hs.length = n) (hn2 : n ≤ 2) (hX : Spans w H hs)
    (hN : Has w gN #[.slice A xs.length c]) (hR : Row w base A c xs) (h1 : gN < base) (h2 : gH < base) (h3 : gH ≠ gN) (h4 : ∀ g, H = some g → g.block < base ∧ g.block ≠ gN) (hbs : base ≤ w.heap.size) (hl : xs.length ≤ 1000) (hm : 0 ≤ m ∧ m ≤ 32054400) (hv : ∀ x ∈ hs, (0 ≤ x.1 ∧ x.1 ≤ 86400) ∧ (0 ≤ x.2 ∧ x.2 ≤ 86400)) :
    Calls Try.prog 21 #[.int .i64 m, .pointer (some ⟨gH, 0, none⟩), .pointer (some ⟨gN, 0, none⟩)] w fun e w' => e = .returned (.tuple #[]) ∧ ∃ A' c', Has w' gN #[.slice A' (xs ++ shiftL m hs).length c'] ∧ Row w' base A' c' (xs ++ shiftL m hs) ∧ Kept (fun b => b < base ∧ b ≠ gN) w w' := by
  have k0 := hH.cell 0 rfl
  have HN := Lib.hid hN
  have HX := Lib.hid hX
  have HR := Lib.hid hR
  have H4 := Lib.hid h4
  have HV := Lib.hid hv
  have hgs := hH.size
  clear hH hN hX hR h4 hv
  go_enter Try.func21, Try.ntmps21
  go_wp2
  go_loopw [8] (fun i wr => ∃ (k : Nat) (B : Option Addr) (d : Nat), k ≤ n ∧ i = .int .i64 k ∧ Hid (Has wr gN #[.slice B (xs ++ shiftL m (hs.take k)).length d]) ∧ Hid (Row wr base B d (xs ++ shiftL m (hs.take k))) ∧ Hid (Kept (fun b => b < base ∧ b ≠ gN) w wr)) (fun i _ => n - (intOf i).toNat)
  case atStart =>
    have e0 : xs ++ shiftL m (hs.take 0) = xs := by simp [shiftL]
    exact ⟨0, A, c, Nat.zero_le _, rfl, by rw [e0]; exact HN.out, by rw [e0]; exact HR.out, Kept.refl _ _⟩
  case round =>
    clear HN HR
    obtain ⟨k, B, d, hk, rfl, hK, hRw, hKp⟩ := hrel
    by_cases hlt : k < n
    · obtain ⟨b, off, rfl, hb, c1, c2⟩ := (spans_kept HX.out hKp.out H4.out).2 k (by omega)
      have hbd := HV.out (hs.getD k (0, 0)) (by simp [List.getD, hn, hlt])
      have hsn := Lib.hid (shift_snoc m hs k (by omega))
      have hln : (xs ++ shiftL m (hs.take k)).length ≤ 1002 := by rw [List.length_append, shift_len, List.length_take]; omega
      generalize hs.getD k (0, 0) = z at *
      obtain ⟨x, y⟩ := z
      simp only [] at c1 c2 hsn hbd
      have i0 : (0 : Int) ≤ (k : Int) := by omega
      have i1 : (k : Int) < (n : Int) := by omega
      have w1 : IntKind.i64.wrap (m + x) = m + x := wrapn_id (by omega) (by omega)
      have w2 : IntKind.i64.wrap (m + y) = m + y := wrapn_id (by omega) (by omega)
      have hkz := hKp.out.size
      have H5 : Hid (Has (wr.alloc (.cells #[.int .i64 x, .int .i64 y] 41)) gN #[.slice B (xs ++ shiftL m (hs.take k)).length d]) := hK.out.alloc _
      have HS := Has.new wr 41 #[.int .i64 x, .int .i64 y] rfl
      have s0 := HS.cell 0 rfl
      have s1 := HS.cell 1 rfl
      have n0 := H5.out.cell 0 rfl
      obtain ⟨A6, c6, w6, hr6, hrow6, hkp6⟩ := row_one (hRw.out.alloc (.cells #[.int .i64 x, .int .i64 y] 41)) rfl (m + x) (m + y) (by omega) (by simp; omega) (s := wr.heap.size + 1) (by simp)
      have HR6 := Lib.hid hr6
      have H6 : Has w6 gN #[.slice B (xs ++ shiftL m (hs.take k)).length d] := H5.out.kept (F := fun b => b < base) h1 hkp6
      have n6f := H6.frozen 0
      have n6 := H6.cell 0 rfl
      have hs6 := H6.size
      have e6 : (xs ++ shiftL m (hs.take k)) ++ [(m + x, m + y)] = xs ++ shiftL m (hs.take (k + 1)) := by rw [hsn.out, List.append_assoc]
      have e7 : (xs ++ shiftL m (hs.take (k + 1))).length = (xs ++ shiftL m (hs.take k)).length + 1 := by rw [← e6, List.length_append]; rfl
      rw [e6] at hrow6
      have HEND : Hid (Has (w6.setCell ⟨gN, 0, none⟩ (.slice A6 ((xs ++ shiftL m (hs.take k)).length + 1) c6)) gN #[.slice A6 (xs ++ shiftL m (hs.take (k + 1))).length c6] ∧ Row (w6.setCell ⟨gN, 0, none⟩ (.slice A6 ((xs ++ shiftL m (hs.take k)).length + 1) c6)) base A6 c6 (xs ++ shiftL m (hs.take (k + 1))) ∧ Kept (fun b => b < base ∧ b ≠ gN) w (w6.setCell ⟨gN, 0, none⟩ (.slice A6 ((xs ++ shiftL m (hs.take k)).length + 1) c6))) := by
        refine ⟨?_, hrow6.far (fun a ha => by have := (hrow6.lt a ha).1; show a.block ≠ gN; omega) _, ?_⟩
        · rw [e7]; exact H6.set 0 _
        · refine (hKp.out.on ((Kept.of_below (F := fun b => b < base ∧ b ≠ gN) (bel_alloc (Below.refl _ wr) (.cells #[.int .i64 x, .int .i64 y] 41)) (fun i hi => by omega)).on (hkp6.less (G := fun b => b < base ∧ b ≠ gN) fun i hi => hi.1))).setn (p := ⟨gN, 0, none⟩) (fun h => h.2 rfl) _
      clear HS hr6 hrow6 hkp6 H6 e6 e7 hsn H5 hK hRw
      generalize (xs ++ shiftL m (hs.take k)).length = L at *
      go_wp2_with (at_builtin; refine wpList_append_run (o := ⟨some 23, _, _, _, _, _⟩) HR6.out rfl rfl rfl rfl ?_)
      go_roundw
      case rel => exact ⟨k + 1, A6, c6, by omega, by go_num, HEND.out.1, HEND.out.2.1, HEND.out.2.2⟩
      case measure => simp [intOf]; omega
    · obtain rfl : k = n := by omega
      have e1 : hs.take k = hs := List.take_of_length_le (by omega)
      rw [e1] at hK hRw
      go_wp2
      go_end0
      exact ⟨rfl, B, d, hK.out, hRw.out, hKp.out⟩
end Go.Proofs.Ytcefjnjlcpkanaa
