/-
  Package night: the hours by night of any day, and how they are put on a day.
  Package breaks: what stands near a day, found by the library's binary search; slices of spans cut.
  night.Of and night.Is, and the document's own.
  The calls whose answers layer 14's document fixes: they are as it says; few; what the laws are walked by.
-/
import Derived.Test.YtdlimgpmmkcgmaaGreatZak
import Derived.Test.YtdlimgpmmkcgmaaGreatZaf
import Derived.Test.YtdlimgpmmkcgmaaGreatZat
import Derived.Test.YtdlimgpmmkcgmaaGreatZax
import Derived.Test.YtdlimgpmmkcgmaaGreatZav
import Derived.Test.YtdlimgpmmkcgmaaGreatZaw
import Derived.Laws.Slices
import Derived.BigQuiet
import Derived.Deep.QuietTactic
import Derived.Test.YtdlimgpmmkcgmaaGreatZau
import Derived.Test.YtdlimgpmmkcgmaaGreatZan
import Derived.Deep.DeepCutAuto
namespace Go.Proofs.YtdlimgpmmkcgmaaGreat
open Go.RowKit
set_option linter.unusedVariables false
set_option linter.unusedSimpArgs false
set_option maxRecDepth 20000

theorem setC_night {w : World} {s : SetP} {cs : Array Value} (h : SetC w s cs) : cs[16]? = some (.int .i64 s.nfrom) ∧ cs[17]? = some (.int .i64 s.nto) := by
  obtain ⟨A1, A2, A3, A4, A5, A6, c1, c2, c3, c4, c5, c6, h1, h2⟩ := h
  unfold setV at h1
  injection h1 with h1
  subst h1
  exact ⟨rfl, rfl⟩
theorem nw_of {s : SetP} {b : Bool} (hb : checkB s = b) : NW b s.nfrom s.nto := fun h => by
  have := check_iff.1 (hb.trans h)
  exact ⟨this.nfrom, this.nto⟩
/-- A literal slice of spans is a row of the call's own. -/
theorem row_new (w : World) (xs : List (Int × Int)) (cs : Array Value) (hcs : cs = (cells2 xs).toArray) (hl : xs.length ≤ 1000) {n : Nat} (hn : n = xs.length) {base : Nat} (hb : base ≤ w.heap.size) {s : Nat} (hs : w.heap.size = s) :
    Row (w.alloc (.cells cs 44)) base (some ⟨s, 0, none⟩) n xs := by
  subst hs
  subst hn
  subst hcs
  have := own_new w 44 2 xs.length (cells2 xs).toArray (by simp [cells2_len]) (by simp only [maxLen]; omega)
  have h2 : Row (w.alloc (.cells (cells2 xs).toArray 44)) w.heap.size (some ⟨w.heap.size, 0, none⟩) xs.length xs := this
  exact h2.mono hb
set_option maxHeartbeats 2000000 in
theorem ofany_c {w : World} {s : SetP} {cs : Array Value} (h : SetC w s cs) (hf : s.Fit) (b : Bool) (hb : checkB s = b) :
    Calls Tryz.prog 53 #[.agg cs] w (Gives w (hoursL b s.nfrom s.nto)) := by
  have HZ := Lib.hid h.size
  obtain ⟨q16, q17⟩ := setC_night h
  have hb0 := bel_alloc (Below.refl w.heap.size w) (.cells cs 30)
  have HB0 := Lib.hid (Has.new w 30 cs rfl)
  have HC := Lib.hid (scheck_c (h.below hb0) hf b hb)
  generalize s.nfrom = f at *
  generalize s.nto = g at *
  clear h hf hb
  cases b with
  | false =>
    go_enter Tryz.func53, Tryz.ntmps53
    go_wp2_with (refine wpList_load_sp (by rfl) _ rfl w.heap.size rfl cs HB0.out HZ.out ?_)
    refine HC.out.mono ?_
    rintro e w1 ⟨rfl, b1⟩
    have HB1 := Lib.hid (bel_on hb0 b1)
    clear b1 hb0
    go_wp2
    go_ret
    exact gives_of (ys := []) (Row.nil _ _) rfl rfl HB1.out
  | true =>
    by_cases q : g < f
    · have HE : Hid (hoursL true f g = [(0, g), (f, 86400)]) := by show _ = _; unfold hoursL; rw [if_pos rfl, if_pos q]
      rw [HE.out]
      go_enter Tryz.func53, Tryz.ntmps53
      go_wp2_with (refine wpList_load_sp (by rfl) _ rfl w.heap.size rfl cs HB0.out HZ.out ?_)
      refine HC.out.mono ?_
      rintro e w1 ⟨rfl, b1⟩
      have HB1 := Lib.hid (bel_on hb0 b1)
      have c16 := (HB0.out.below b1).cell 16 q16
      have c17 := (HB0.out.below b1).cell 17 q17
      have hbw : w.heap.size < w1.heap.size := (HB0.out.below b1).size
      have HR := Lib.hid (row_new w1 [(0, g), (f, 86400)] #[.int .i64 0, .int .i64 g, .int .i64 f, .int .i64 86400] rfl (by simp) rfl (base := w.heap.size) (by omega) rfl)
      clear b1 hb0
      go_wp2
      go_ret
      exact gives_of HR.out rfl rfl (bel_alloc HB1.out _)
    · have HE : Hid (hoursL true f g = [(f, g)]) := by show _ = _; unfold hoursL; rw [if_pos rfl, if_neg q]
      rw [HE.out]
      go_enter Tryz.func53, Tryz.ntmps53
      go_wp2_with (refine wpList_load_sp (by rfl) _ rfl w.heap.size rfl cs HB0.out HZ.out ?_)
      refine HC.out.mono ?_
      rintro e w1 ⟨rfl, b1⟩
      have HB1 := Lib.hid (bel_on hb0 b1)
      have c16 := (HB0.out.below b1).cell 16 q16
      have c17 := (HB0.out.below b1).cell 17 q17
      have hbw : w.heap.size < w1.heap.size := (HB0.out.below b1).size
      have HR := Lib.hid (row_new w1 [(f, g)] #[.int .i64 f, .int .i64 g] rfl (by simp) rfl (base := w.heap.size) (by omega) rfl)
      clear b1 hb0
      go_wp2
      go_ret
      exact gives_of HR.out rfl rfl (bel_alloc HB1.out _)

/-! ### A span more -/
theorem row_one {w : World} {base c : Nat} {A : Option Addr} {xs : List (Int × Int)} (h : Row w base A c xs) {n : Nat} (hn : xs.length = n) (a b : Int) (hm : n ≤ 1000000) (hbase : base ≤ w.heap.size) {s : Nat} (hs : w.heap.size = s) :
    ∃ A' c' w', (Builtin.append_ #[40, 40] 40 #[.slice A n c, .slice (some ⟨s, 0, none⟩) 1 1]).run Tryz.prog (w.alloc (.cells #[.int .i64 a, .int .i64 b] 44)) = .ok (.slice A' (n + 1) c') w' ∧ Row w' base A' c' (xs ++ [(a, b)]) ∧ Kept (fun b => b < base) w w' := by
  subst hn
  obtain ⟨A', c', w', hr, ho, _, hsz, hg, hl⟩ := row_push h a b (by omega) hbase hs
  refine ⟨A', c', w', hr, ho, ⟨hg.os, hg.tape, hg.output, hsz, fun k hk => ?_⟩⟩
  rw [hg.block k (by simp; omega) ?_]
  · exact Below.heap_alloc w _ k (by omega)
  · intro e
    cases A with
    | none => simp [Value.ownBlock] at e
    | some a0 =>
      simp [Value.ownBlock] at e
      have := (h.lt a0 rfl).1
      omega
theorem Kept.setn {F : Nat → Prop} {a w : World} (h : Kept F a w) {p : Addr} (hp : ¬ F p.block) (v : Value) : Kept F a (w.setCell p v) := by
  refine ⟨h.os, h.tape, h.output, ?_, fun b hb => ?_⟩
  · have := Kept.size h
    simp [World.setCell]
    exact this
  · rw [Below.heap_setCell w p v b (by rintro rfl; exact hp hb)]
    exact h.block b hb
theorem wrapn_id {a : Int} (h0 : -9223372036854775808 ≤ a) (h1 : a < 9223372036854775808) : IntKind.i64.wrap a = a := by
  simp [IntKind.wrap, IntKind.bits, IntKind.signed]
  split <;> omega
theorem spans_kept {F : Nat → Prop} {w w' : World} {A : Option Addr} {xs : List (Int × Int)} (h : Spans w A xs) (k : Kept F w w') (hF : ∀ g, A = some g → F g.block) : Spans w' A xs := by
  refine ⟨h.1, fun i hi => ?_⟩
  obtain ⟨b, off, rfl, h0, h1, h2⟩ := h.2 i hi
  have e := k.block b (hF _ rfl)
  exact ⟨b, off, rfl, Nat.lt_of_lt_of_le h0 (Kept.size k), (World.cell?_of_block e).trans h1, (World.cell?_of_block e).trans h2⟩

set_option maxHeartbeats 2000000 in
theorem put_night (m : Int) (gH gN : Nat) (H : Option Addr) (cH n : Nat) (hs : List (Int × Int)) (A : Option Addr) (c : Nat) (xs : List (Int × Int)) (base : Nat) (w : World) (hH : Has w gH #[.slice H n cH]) (hn : hs.length = n) (hn2 : n ≤ 2) (hX : Spans w H hs)
    (hN : Has w gN #[.slice A xs.length c]) (hR : Row w base A c xs) (h1 : gN < base) (h2 : gH < base) (h3 : gH ≠ gN) (h4 : ∀ g, H = some g → g.block < base ∧ g.block ≠ gN) (hbs : base ≤ w.heap.size) (hl : xs.length ≤ 1000) (hm : 0 ≤ m ∧ m ≤ 32054400) (hv : ∀ x ∈ hs, (0 ≤ x.1 ∧ x.1 ≤ 86400) ∧ (0 ≤ x.2 ∧ x.2 ≤ 86400)) :
    Calls Tryz.prog 54 #[.int .i64 m, .pointer (some ⟨gH, 0, none⟩), .pointer (some ⟨gN, 0, none⟩)] w fun e w' => e = .returned (.tuple #[]) ∧ ∃ A' c', Has w' gN #[.slice A' (xs ++ shiftL m hs).length c'] ∧ Row w' base A' c' (xs ++ shiftL m hs) ∧ Kept (fun b => b < base ∧ b ≠ gN) w w' := by
  have k0 := hH.cell 0 rfl
  have HN := Lib.hid hN
  have HX := Lib.hid hX
  have HR := Lib.hid hR
  have H4 := Lib.hid h4
  have HV := Lib.hid hv
  have hgs := hH.size
  clear hH hN hX hR h4 hv
  go_enter Tryz.func54, Tryz.ntmps54
  go_wp2
  go_loopw [8] (fun i wr => ∃ (k : Nat) (B : Option Addr) (d : Nat), k ≤ n ∧ i = .int .i64 k ∧ Hid (Has wr gN #[.slice B (xs ++ shiftL m (hs.take k)).length d]) ∧ Hid (Row wr base B d (xs ++ shiftL m (hs.take k))) ∧ Hid (Kept (fun b => b < base ∧ b ≠ gN) w wr)) (fun i _ => n - (intOf i).toNat)
  case atStart =>
    have e0 : xs ++ shiftL m (hs.take 0) = xs := by simp [shiftL]
    exact ⟨0, A, c, Nat.zero_le _, rfl, by rw [e0]; exact HN.out, by rw [e0]; exact HR.out, Kept.refl _ _⟩
  case round =>
    clear HN HR
    obtain ⟨k, B, d, hk, rfl, hK, hRw, hKp⟩ := hrel
    by_cases hlt : k < n
    · obtain ⟨b, off, rfl, hb, c1, c2⟩ := (spans_kept HX.out hKp.out H4.out).2 k (by omega)
      have hbd := HV.out (hs.getD k (0, 0)) (by simp [List.getD, hn, hlt])
      have hsn := Lib.hid (shift_snoc m hs k (by omega))
      have hln : (xs ++ shiftL m (hs.take k)).length ≤ 1002 := by rw [List.length_append, shift_len, List.length_take]; omega
      generalize hs.getD k (0, 0) = z at *
      obtain ⟨x, y⟩ := z
      simp only [] at c1 c2 hsn hbd
      have i0 : (0 : Int) ≤ (k : Int) := by omega
      have i1 : (k : Int) < (n : Int) := by omega
      have w1 : IntKind.i64.wrap (m + x) = m + x := wrapn_id (by omega) (by omega)
      have w2 : IntKind.i64.wrap (m + y) = m + y := wrapn_id (by omega) (by omega)
      have hkz := hKp.out.size
      have H5 : Hid (Has (wr.alloc (.cells #[.int .i64 x, .int .i64 y] 44)) gN #[.slice B (xs ++ shiftL m (hs.take k)).length d]) := hK.out.alloc _
      have HS := Has.new wr 44 #[.int .i64 x, .int .i64 y] rfl
      have s0 := HS.cell 0 rfl
      have s1 := HS.cell 1 rfl
      have n0 := H5.out.cell 0 rfl
      obtain ⟨A6, c6, w6, hr6, hrow6, hkp6⟩ := row_one (hRw.out.alloc (.cells #[.int .i64 x, .int .i64 y] 44)) rfl (m + x) (m + y) (by omega) (by simp; omega) (s := wr.heap.size + 1) (by simp)
      have HR6 := Lib.hid hr6
      have H6 : Has w6 gN #[.slice B (xs ++ shiftL m (hs.take k)).length d] := H5.out.kept (F := fun b => b < base) h1 hkp6
      have n6f := H6.frozen 0
      have n6 := H6.cell 0 rfl
      have hs6 := H6.size
      have e6 : (xs ++ shiftL m (hs.take k)) ++ [(m + x, m + y)] = xs ++ shiftL m (hs.take (k + 1)) := by rw [hsn.out, List.append_assoc]
      have e7 : (xs ++ shiftL m (hs.take (k + 1))).length = (xs ++ shiftL m (hs.take k)).length + 1 := by rw [← e6, List.length_append]; rfl
      rw [e6] at hrow6
      have HEND : Hid (Has (w6.setCell ⟨gN, 0, none⟩ (.slice A6 ((xs ++ shiftL m (hs.take k)).length + 1) c6)) gN #[.slice A6 (xs ++ shiftL m (hs.take (k + 1))).length c6] ∧ Row (w6.setCell ⟨gN, 0, none⟩ (.slice A6 ((xs ++ shiftL m (hs.take k)).length + 1) c6)) base A6 c6 (xs ++ shiftL m (hs.take (k + 1))) ∧ Kept (fun b => b < base ∧ b ≠ gN) w (w6.setCell ⟨gN, 0, none⟩ (.slice A6 ((xs ++ shiftL m (hs.take k)).length + 1) c6))) := by
        refine ⟨?_, hrow6.far (fun a ha => by have := (hrow6.lt a ha).1; show a.block ≠ gN; omega) _, ?_⟩
        · rw [e7]; exact H6.set 0 _
        · refine (hKp.out.on ((Kept.of_below (F := fun b => b < base ∧ b ≠ gN) (bel_alloc (Below.refl _ wr) (.cells #[.int .i64 x, .int .i64 y] 44)) (fun i hi => by omega)).on (hkp6.less (G := fun b => b < base ∧ b ≠ gN) fun i hi => hi.1))).setn (p := ⟨gN, 0, none⟩) (fun h => h.2 rfl) _
      clear HS hr6 hrow6 hkp6 H6 e6 e7 hsn H5 hK hRw
      generalize (xs ++ shiftL m (hs.take k)).length = L at *
      go_wp2_with (at_builtin; refine wpList_append_run (o := ⟨some 23, _, _, _, _, _⟩) HR6.out rfl rfl rfl rfl ?_)
      go_roundw
      case rel => exact ⟨k + 1, A6, c6, by omega, by go_num, HEND.out.1, HEND.out.2.1, HEND.out.2.2⟩
      case measure => simp [intOf]; omega
    · obtain rfl : k = n := by omega
      have e1 : hs.take k = hs := List.take_of_length_le (by omega)
      rw [e1] at hK hRw
      go_wp2
      go_end0
      exact ⟨rfl, B, d, hK.out, hRw.out, hKp.out⟩
end Go.Proofs.YtdlimgpmmkcgmaaGreat

namespace Go.Proofs.YtdlimgpmmkcgmaaGreat
open Go.RowKit
set_option linter.unusedVariables false
set_option linter.unusedSimpArgs false
set_option maxRecDepth 20000

/-! ### Slices of spans cut -/
theorem sp_size (w : World) : (sizeOf (Tryz.prog.elem 40)).run Tryz.prog w = .ok 2 w := by kernel_rfl
theorem wpList_slice_runB {P : Program} {ops : Array Oper} {rest : List Oper} {o : Oper} {a : Act} {w : World} {Q : Exit → Act → World → Prop} {x : Operand} {l h m : Option Operand} {t : TypeId} {v v' : Value} {lo hi mx : Option Value}
    (hr : ∀ w', (Instr.sliceAt t v lo hi mx).run P w' = .ok v' w') (hgd : o.guard = none)
    (ho : o.op = .slice t x l h m) (hx : a.eval x = v) (h1 : l.map a.eval = lo) (h2 : h.map a.eval = hi) (h3 : m.map a.eval = mx)
    (hk : wpList P ops Q rest (a.put o.dst v') w) : wpList P ops Q (o :: rest) a w := by
  refine wpList_plain hgd fun K hK => ?_
  unfold Oper.wp
  simp [execOp, ho, hx, h1, h2, h3, hr, Result.andThen]
  exact hK _ _ hk
theorem cut_get {L : List (Int × Int)} {a b k : Nat} (hb : b ≤ L.length) (hk : k < b - a) : ((L.take b).drop a).getD k (0, 0) = L.getD (a + k) (0, 0) := by
  simp [List.getD, List.getElem?_drop, List.getElem?_take, show a + k < b by omega]
theorem cut_len {L : List (Int × Int)} {a b : Nat} (hb : b ≤ L.length) : ((L.take b).drop a).length = b - a := by rw [List.length_drop, List.length_take]; omega
theorem spcut {A : Option Addr} {n c : Nat} {L : List (Int × Int)} (hn : L.length = n) (hnc : n ≤ c) (hc : c ≤ 9223372036854775807) {a b : Nat} (hab : a ≤ b) (hb : b ≤ n) :
    ∃ A', (∀ w', (Instr.sliceAt 40 (.slice A n c) (some (.int .i64 (a : Int))) (some (.int .i64 (b : Int))) none).run Tryz.prog w' = .ok (.slice A' (b - a) (c - a)) w') ∧ ∀ w, Spans w A L → Spans w A' ((L.take b).drop a) := by
  have hrun : ∀ w', (Instr.sliceAt 40 (.slice A n c) (some (.int .i64 (a : Int))) (some (.int .i64 (b : Int))) none).run Tryz.prog w' = .ok (.slice (if c = a then A else A.map (·.add (a * 2))) (b - a) (c - a)) w' := by
    intro w'
    rw [run_sliceAt_slice _ _ _ _ _ _ Tryz.underlying40, run_slice_lh _ _ _ _ _ Tryz.underlying40 .i64 .i64 (a : Int) (b : Int) (by omega) (by omega) (by omega), sp_size]
    simp [sliced, Result.andThen]
  refine ⟨_, hrun, fun w h => ⟨fun x hx => h.1 x (List.mem_of_mem_take (List.mem_of_mem_drop hx)), fun k hk => ?_⟩⟩
  rw [cut_len (by omega)] at hk
  obtain ⟨g, off, rfl, h0, h1, h2⟩ := h.2 (a + k) (by omega)
  rw [cut_get (by omega) hk, if_neg (by omega)]
  refine ⟨g, off + a * 2, by rw [Option.map_some, add_none], h0, ?_, ?_⟩
  · rw [show off + a * 2 + k * 2 = off + (a + k) * 2 by omega]; exact h1
  · rw [show off + a * 2 + k * 2 + 1 = off + (a + k) * 2 + 1 by omega]; exact h2

/-! ### The library's binary search -/
set_option maxHeartbeats 4000000 in
theorem search_c (F : FuncId) (p1 p2 : Value) (n : Nat) (p : Nat → Bool) (w : World) (eg : ∀ args w, (callFunc F args).run Tryz.prog w = .ok (.enter F args) w) (hn : n ≤ 100000000)
    (hf : ∀ W i, Below w.heap.size w W → i < n → Calls Tryz.prog F #[.int .i64 (i : Nat), p1, p2] W fun e w' => e = .returned (.bool (p i)) ∧ Below W.heap.size W w')
    (hmono : ∀ a b, a ≤ b → b < n → p a = true → p b = true) :
    Calls Tryz.prog 99 #[.int .i64 n, .func (.func F) #[] #[p1, p2]] w fun e w' => ∃ r : Nat, e = .returned (.int .i64 r) ∧ r ≤ n ∧ (∀ i, i < r → p i = false) ∧ (∀ i, r ≤ i → i < n → p i = true) ∧ Below w.heap.size w w' := by
  have HF := Lib.hid hf
  have HM := Lib.hid hmono
  clear hf hmono
  go_enter Tryz.func99, Tryz.ntmps99
  go_wp2
  go_loopg [5, 6] n (fun kx s5 s6 wr => ∃ (lo hi : Nat), s5 = .int .i64 lo ∧ s6 = .int .i64 hi ∧ lo ≤ hi ∧ hi ≤ n ∧ hi - lo ≤ kx ∧ Hid (Below w.heap.size w wr) ∧ Hid ((∀ t, t < lo → p t = false) ∧ (∀ t, hi ≤ t → t < n → p t = true)))
  case atStart => exact ⟨0, n, rfl, rfl, Nat.zero_le _, Nat.le_refl _, by omega, Below.refl _ _, (⟨fun t ht => absurd ht (Nat.not_lt_zero _), fun t h1 h2 => by omega⟩ : (∀ t, t < 0 → p t = false) ∧ (∀ t, n ≤ t → t < n → p t = true))⟩
  case round =>
    obtain ⟨lo, hi, rfl, rfl, hlh, hin, hg, HW, HI⟩ := hrel
    by_cases hlt : lo < hi
    · have hc := HF.out wr ((lo + hi) / 2) HW.out (by omega)
      rw [show (((lo + hi) / 2 : Nat) : Int) = ((lo : Int) + (hi : Int)) / 2 by omega] at hc
      cases hp : p ((lo + hi) / 2) with
      | false =>
        rw [hp] at hc
        have HC := Lib.hid hc
        have HI2 : Hid ((∀ t, t < (lo + hi) / 2 + 1 → p t = false) ∧ (∀ t, hi ≤ t → t < n → p t = true)) := ⟨fun t ht => (by
            cases h : p t with
            | false => rfl
            | true => have := HM.out t ((lo + hi) / 2) (by omega) (by omega) h; rw [hp] at this; cases this), HI.out.2⟩
        clear hp hc HI
        go_wp2_with fail
        refine HC.out.mono ?_
        rintro e w5 ⟨rfl, hb5⟩
        have HW5 := Lib.hid (bel_on HW.out hb5)
        clear hb5 HW HC
        go_wp2
        go_roundg (hi - ((lo + hi) / 2 + 1))
        case measure => omega
        case rel => exact ⟨(lo + hi) / 2 + 1, hi, by rw [show ((lo : Int) + (hi : Int)) / 2 + 1 = (((lo + hi) / 2 + 1 : Nat) : Int) by omega], rfl, by omega, hin, Nat.le_refl _, HW5, HI2⟩
      | true =>
        rw [hp] at hc
        have HC := Lib.hid hc
        have HI2 : Hid ((∀ t, t < lo → p t = false) ∧ (∀ t, (lo + hi) / 2 ≤ t → t < n → p t = true)) := ⟨HI.out.1, fun t ht htn => HM.out ((lo + hi) / 2) t ht htn hp⟩
        clear hp hc HI
        go_wp2_with fail
        refine HC.out.mono ?_
        rintro e w5 ⟨rfl, hb5⟩
        have HW5 := Lib.hid (bel_on HW.out hb5)
        clear hb5 HW HC
        go_wp2
        go_roundg ((lo + hi) / 2 - lo)
        case measure => omega
        case rel => exact ⟨lo, (lo + hi) / 2, rfl, by rw [show ((lo : Int) + (hi : Int)) / 2 = (((lo + hi) / 2 : Nat) : Int) by omega], by omega, by omega, Nat.le_refl _, HW5, HI2⟩
    · obtain rfl : hi = lo := by omega
      go_wp2
      go_ret
      exact ⟨hi, rfl, hin, HI.out.1, HI.out.2, HW.out⟩

/-! ### near -/
set_option maxHeartbeats 1000000 in
theorem near1_c (gL gD : Nat) (A : Option Addr) (n c : Nat) (L : List (Int × Int)) (d : Int) (i : Nat) (w : World) (hL : Has w gL #[.slice A n c]) (hD : Has w gD #[.int .i64 d]) (hx : Spans w A L) (hn : L.length = n) (hP : PlainFrom 0 L) (hi : i < n) :
    Calls Tryz.prog 100 #[.int .i64 (i : Nat), .pointer (some ⟨gL, 0, none⟩), .pointer (some ⟨gD, 0, none⟩)] w fun e w' => e = .returned (.bool (ndA L d i)) ∧ Below w.heap.size w w' := by
  obtain ⟨b, off, rfl, hb, c1, c2⟩ := hx.2 i (by omega)
  have hz := plain_get hP (show i < L.length by omega)
  unfold ndA
  generalize L.getD i (0, 0) = z at *
  obtain ⟨x, y⟩ := z
  simp only [] at c1 c2 hz
  obtain ⟨z0, z1, z2⟩ := hz
  have k0 := hL.cell 0 rfl
  have k1 := hD.cell 0 rfl
  have s0 := hL.size
  have s1 := hD.size
  have i0 : (0 : Int) ≤ (i : Int) := by omega
  have i1 : (i : Int) < (n : Int) := by omega
  have wy : IntKind.i64.wrap (y - 1) = y - 1 := wrapn_id (by omega) (by omega)
  have HDY := Lib.hid (fun W => (day_any (y - 1) W).mono fun _ _ h => And.intro h.1 h.2.symm)
  generalize dayP (y - 1) = r at *
  clear hL hD hx hn hP
  go_enter Tryz.func100, Tryz.ntmps100
  go_wp2
  go_quiet ((go_at_call 101; with_reducible exact Calls.quiet_of_same (HDY.out _)))
  go_wp2
  go_ret
  exact ⟨rfl, below_drewN (Below.refl _ _) _⟩
set_option maxHeartbeats 1000000 in
theorem near2_c (gL gD : Nat) (A : Option Addr) (n c : Nat) (L : List (Int × Int)) (d : Int) (i : Nat) (w : World) (hL : Has w gL #[.slice A n c]) (hD : Has w gD #[.int .i64 d]) (hx : Spans w A L) (hn : L.length = n) (hi : i < n) :
    Calls Tryz.prog 102 #[.int .i64 (i : Nat), .pointer (some ⟨gL, 0, none⟩), .pointer (some ⟨gD, 0, none⟩)] w fun e w' => e = .returned (.bool (ndB L d i)) ∧ Below w.heap.size w w' := by
  obtain ⟨b, off, rfl, hb, c1, c2⟩ := hx.2 i (by omega)
  unfold ndB
  generalize L.getD i (0, 0) = z at *
  obtain ⟨x, y⟩ := z
  simp only [] at c1 c2
  have k0 := hL.cell 0 rfl
  have k1 := hD.cell 0 rfl
  have s0 := hL.size
  have s1 := hD.size
  have i0 : (0 : Int) ≤ (i : Int) := by omega
  have i1 : (i : Int) < (n : Int) := by omega
  have HDY := Lib.hid (fun W => (day_any x W).mono fun _ _ h => And.intro h.1 h.2.symm)
  generalize dayP x = r at *
  clear hL hD hx hn
  go_enter Tryz.func102, Tryz.ntmps102
  go_wp2
  go_quiet ((go_at_call 101; with_reducible exact Calls.quiet_of_same (HDY.out _)))
  go_wp2
  go_ret
  exact ⟨rfl, below_drewN (Below.refl _ _) _⟩
/-- What stands near a day of plain spans. -/
def Near (w : World) (L : List (Int × Int)) (d : Int) (e : Ending) (w' : World) : Prop :=
  ∃ A' c' M, e = .returned (.slice A' M.length c') ∧ Spans w' A' M ∧ M.length ≤ L.length ∧ (∀ t, t / 86400 = d → (In M t ↔ In L t)) ∧ Below w.heap.size w w'
set_option maxHeartbeats 2000000 in
theorem bnear_any (A : Option Addr) (n c : Nat) (L : List (Int × Int)) (d : Int) (w : World) (hx : Spans w A L) (hn : L.length = n) (hP : PlainFrom 0 L) (hl : n ≤ 100000000) (hnc : n ≤ c) (hc : c ≤ 9223372036854775807) :
    Calls Tryz.prog 52 #[.slice A n c, .int .i64 d] w (Near w L d) := by
  have hb0 := bel_alloc (bel_alloc (Below.refl w.heap.size w) (.cells #[.slice A n c] 40)) (.cells #[.int .i64 d] 3)
  have HL0 := Lib.hid ((Has.new w 40 #[.slice A n c] rfl).alloc (.cells #[.int .i64 d] 3))
  have HD0 : Hid (Has ((w.alloc (.cells #[.slice A n c] 40)).alloc (.cells #[.int .i64 d] 3)) (w.heap.size + 1) #[.int .i64 d]) := Has.new _ _ _ (by simp)
  have HX0 := Lib.hid (hx.below hb0)
  have HB0 := Lib.hid hb0
  have HP := Lib.hid hP
  have eg1 : ∀ args w, (callFunc 100 args).run Tryz.prog w = .ok (.enter 100 args) w := enters_of Tryz.func100 (by kernel_rfl) rfl
  have eg2 : ∀ args w, (callFunc 102 args).run Tryz.prog w = .ok (.enter 102 args) w := enters_of Tryz.func102 (by kernel_rfl) rfl
  have EG1 := Lib.hid eg1
  have EG2 := Lib.hid eg2
  have k0 := HL0.out.cell 0 rfl
  have s0 := HL0.out.size
  clear hx hb0 hP eg1 eg2
  obtain ⟨gD, hgD⟩ : ∃ g, w.heap.size + 1 = g := ⟨_, rfl⟩
  rw [hgD] at HD0
  have hgL : w.heap.size < gD := by omega
  have HN := Lib.hid hn
  clear hn
  go_enter Tryz.func52, Tryz.ntmps52
  go_wp2_with fail
  (try rw [hgD])
  clear hgD
  generalize (w.alloc (.cells #[.slice A n c] 40)).alloc (.cells #[.int .i64 d] 3) = w1 at *

  refine (search_c 100 _ _ n (ndA L d) w1 EG1.out hl (fun W i hW hi => near1_c w.heap.size gD A n c L d i W (HL0.out.below hW) (HD0.out.below hW) (HX0.out.below hW) HN.out HP.out hi) (fun a b h1 h2 h3 => ndA_mono HP.out d h1 (by rw [HN.out]; exact h2) h3)).mono ?_
  rintro e w2 ⟨a, rfl, ha, ha1, ha2, hb2⟩
  have HA := Lib.hid ha1
  have HL2 := Lib.hid (HL0.out.below hb2)
  have HD2 := Lib.hid (HD0.out.below hb2)
  have HX2 := Lib.hid (HX0.out.below hb2)
  have HB2 := Lib.hid (bel_on HB0.out hb2)
  have k2 := HL2.out.cell 0 rfl
  have s2 := HL2.out.size
  clear ha1 ha2 hb2 k0 s0 HL0 HD0 HX0 HB0
  go_wp2_with fail
  refine (search_c 102 _ _ n (ndB L d) w2 EG2.out hl (fun W i hW hi => near2_c w.heap.size gD A n c L d i W (HL2.out.below hW) (HD2.out.below hW) (HX2.out.below hW) HN.out hi) (fun a b h1 h2 h3 => ndB_mono HP.out d h1 (by rw [HN.out]; exact h2) h3)).mono ?_
  rintro e w3 ⟨b, rfl, hb, hb1, hb2', hb3⟩
  have hab : a ≤ b := near_le HP.out d (by rw [HN.out]; exact ha) (by rw [HN.out]; exact hb) HA.out (by rw [HN.out]; exact hb2')
  have HIN : Hid (∀ t, t / 86400 = d → (In ((L.take b).drop a) t ↔ In L t)) := fun t ht => near_in HP.out d (by rw [HN.out]; exact ha) (by rw [HN.out]; exact hb) HA.out (by rw [HN.out]; exact hb2') ht
  have HX3 := Lib.hid (HX2.out.below hb3)
  have HL3 := Lib.hid (HL2.out.below hb3)
  have HB3 := Lib.hid (bel_on HB2.out hb3)
  have k3 := HL3.out.cell 0 rfl
  have s3 := HL3.out.size
  obtain ⟨A', hr, hs⟩ := spcut (A := A) HN.out hnc hc hab hb
  have HR := Lib.hid hr
  have HS := Lib.hid (hs _ HX3.out)
  have hle : ((L.take b).drop a).length ≤ L.length := by rw [cut_len (by rw [HN.out]; exact hb), HN.out]; omega
  have HLE := Lib.hid hle
  have hm : ((L.take b).drop a).length = b - a := cut_len (by rw [HN.out]; exact hb)
  have HMM := Lib.hid hm
  clear hb1 hb2' hb3 k2 s2 HL2 HD2 HX2 HB2 hr hs hle hm
  go_wp2_with (refine wpList_slice_runB HR.out rfl rfl rfl rfl rfl rfl ?_)
  go_ret
  exact ⟨A', c - a, _, by rw [HMM.out]; rfl, HS.out, HLE.out, HIN.out, HB3.out⟩
end Go.Proofs.YtdlimgpmmkcgmaaGreat

namespace Go.Proofs.YtdlimgpmmkcgmaaGreat
open Go.RowKit
set_option linter.unusedVariables false
set_option linter.unusedSimpArgs false
set_option maxRecDepth 20000

set_option maxHeartbeats 4000000 in
theorem ofnight_c {w : World} {s : SetP} {cs : Array Value} (h : SetC w s cs) (hf : s.Fit) (b : Bool) (hb : checkB s = b) (A : Option Addr) (cap : Nat) (xs : List (Int × Int)) (hx : Spans w A xs) (hl : xs.length ≤ 100000000) :
    Calls Tryz.prog 22 #[.agg cs, .slice A xs.length cap] w (Gives w (canon fun t => In xs t ∧ NB b s.nfrom s.nto t)) := by
  have HZ := Lib.hid h.size
  have hnw := nw_of hb
  have HE := Lib.hid (night_and hnw xs)
  have HV := Lib.hid (hours_bd hnw)
  have HF := Lib.hid (hours_fits hnw)
  have HDF := Lib.hid (daysL_fits hnw (k := 371) (by omega))
  have hlen := hours_len b s.nfrom s.nto
  have hb0 := bel_alloc (bel_alloc (Below.refl w.heap.size w) (.cells cs 30)) (.cells #[.slice none 0 0] 40)
  have hz0 : ((w.alloc (.cells cs 30)).alloc (.cells #[.slice none 0 0] 40)).heap.size = w.heap.size + 2 := by simp
  have hz1 : (w.alloc (.cells cs 30)).heap.size = w.heap.size + 1 := by simp
  have HB0 := Lib.hid ((Has.new w 30 cs rfl).alloc (.cells #[.slice none 0 0] 40))
  have HN0 : Has ((w.alloc (.cells cs 30)).alloc (.cells #[.slice none 0 0] 40)) (w.heap.size + 1) #[.slice none 0 0] := Has.new _ _ _ hz1
  have HC := ofany_c (h.below hb0) hf b hb
  unfold daysL at HE HDF
  have HSN := Lib.hid (fun k => daysL_snoc b s.nfrom s.nto k)
  have HLN := Lib.hid (fun k => daysL_len b s.nfrom s.nto k)
  have h00 : daysL b s.nfrom s.nto 0 = [] := rfl
  replace HE : Hid ((canon fun t => In xs t ∧ In (daysL b s.nfrom s.nto 371) t) = canon fun t => In xs t ∧ NB b s.nfrom s.nto t) := HE
  replace HDF : Hid (Fits (daysL b s.nfrom s.nto 371)) := HDF
  generalize hY : (fun k => daysL b s.nfrom s.nto k) = Y at *
  have hYk : ∀ k, daysL b s.nfrom s.nto k = Y k := fun k => by rw [← hY]
  simp only [hYk] at HE HDF HSN HLN h00
  generalize hoursL b s.nfrom s.nto = hs at *
  obtain ⟨n, hn⟩ : ∃ n, hs.length = n := ⟨_, rfl⟩
  have HX0 := Lib.hid hx
  clear h hf hb hnw hY hYk hx
  generalize (canon fun t => In xs t ∧ NB b s.nfrom s.nto t) = R at *
  go_enter Tryz.func22, Tryz.ntmps22
  go_wp2_with (refine wpList_load_sp (by rfl) _ rfl w.heap.size rfl cs HB0.out HZ.out ?_)
  refine HC.mono ?_
  rintro e w1 ⟨D, dc, rfl, hrow, hb1⟩
  rw [hz0] at hrow
  have HN1 := HN0.below hb1
  have hgz := HN1.size
  have HB1 := Lib.hid (bel_on hb0 hb1)
  have HS1 := hrow.spans HF.out
  have hD : ∀ g, D = some g → g.block < w1.heap.size + 1 ∧ g.block ≠ w.heap.size + 1 := fun g hg => by have := hrow.lt g hg; omega
  rw [hn]
  have hn2 : n ≤ 2 := by omega
  have HB3 := Lib.hid (bel_alloc (Below.refl w1.heap.size w1) (.cells #[.slice D n dc] 40))
  have HS3 := Lib.hid (HS1.below HB3.out)
  have HH3 := Lib.hid (Has.new w1 40 #[.slice D n dc] rfl)
  have HN3 : Hid (Has (w1.alloc (.cells #[.slice D n dc] 40)) (w.heap.size + 1) #[.slice none 0 0]) := HN1.alloc _
  have hz3 : (w1.alloc (.cells #[.slice D n dc] 40)).heap.size = w1.heap.size + 1 := by simp
  have HD := Lib.hid hD
  have HBW := Lib.hid (bel_on HB1.out HB3.out)
  clear hrow HC hb0 hb1 HB0 HN0 HN1 HS1 hD hz0 hz1
  have eg : ∀ args W, (callFunc 54 args).run Tryz.prog W = .ok (.enter 54 args) W := enters_of Tryz.func54 (by kernel_rfl) rfl
  obtain ⟨gN, hg⟩ : ∃ g, w.heap.size + 1 = g := ⟨_, rfl⟩
  have HG := Lib.hid hg
  rw [hg] at hgz HD HN3
  have hgw : w.heap.size < gN := by omega
  rw [hg]
  clear hg
  go_wp2
  generalize w1.alloc (.cells #[.slice D n dc] 40) = w3 at *
  go_loopw [12] (fun i wr => ∃ (k : Nat) (B : Option Addr) (c : Nat), k ≤ 371 ∧ i = .int .i64 k ∧ Hid (Has wr gN #[.slice B (Y k).length c]) ∧ Hid (Row wr (w1.heap.size + 1) B c (Y k)) ∧ Hid (Kept (fun x => x < w1.heap.size + 1 ∧ x ≠ gN) w3 wr)) (fun i _ => 371 - (intOf i).toNat)
  case atStart => exact ⟨0, none, 0, Nat.zero_le _, rfl, by rw [h00]; exact HN3, by rw [h00]; exact Row.nil _ _, Kept.refl _ _⟩
  case round =>
    obtain ⟨k, B, c, hk, rfl, hK, hRw, hKp⟩ := hrel
    by_cases hlt : k < 371
    · have i1 : (k : Int) < 371 := by omega
      have i0 : (0 : Int) ≤ (k : Int) := by omega
      have hkz := hKp.out.size
      have hyl := HLN.out k
      have hHr := HH3.out.kept (F := fun x => x < w1.heap.size + 1 ∧ x ≠ gN) ⟨by omega, by omega⟩ hKp.out
      have hSr := spans_kept HS3.out hKp.out HD.out
      have CC := Lib.hid (put_night ((k : Int) * 86400) w1.heap.size gN D dc n hs B c (Y k) (w1.heap.size + 1) wr hHr hn hn2 hSr hK.out hRw.out (by omega) (by omega) (by omega) HD.out (by omega) (by omega) (by omega) HV.out)
      rw [← HSN.out] at CC
      clear hHr hSr hK hRw
      go_wp2_with fail
      refine CC.out.mono ?_
      rintro e w5 ⟨rfl, A5, c5, hK5, hR5, hKp5⟩
      replace hKp5 := Lib.hid (hKp.out.on hKp5)
      replace hK5 := Lib.hid hK5
      replace hR5 := Lib.hid hR5
      clear CC hKp
      go_wp2
      go_roundw
      case rel => exact ⟨k + 1, A5, c5, by omega, by go_num, hK5, hR5, hKp5⟩
      case measure => simp [intOf]; omega
    · obtain rfl : k = 371 := by omega
      have k0 := hK.out.cell 0 rfl
      have kl := hK.out.size
      have HBR : Hid (Below w.heap.size w wr) := by
        have h1 := hKp.out.below (B := w.heap.size) (fun i hi => ⟨by omega, by omega⟩)
        have h2 := HBW.out
        exact ⟨h1.os.trans h2.os, h1.tape.trans h2.tape, h1.output.trans h2.output, Nat.le_trans h2.size h1.size, fun b hb => (h1.block b hb).trans (h2.block b hb)⟩
      have hyl := HLN.out 371
      have HSY := Lib.hid (hRw.out.spans HDF.out)
      have hxl : Hid (Spans wr A xs) := HX0.out.below HBR.out
      go_wp2_with fail
      refine (and_any A B cap c xs (Y 371) _ hxl.out HSY.out hl (by omega)).mono ?_
      intro e w6 hg
      have HG6 := gives_bel hg HBR.out HE.out
      clear hg
      obtain ⟨D6, d6, rfl, hr6, hb6⟩ := HG6
      go_wp2
      go_ret
      exact ⟨D6, d6, rfl, hr6, hb6⟩

theorem isB_in {f g t n : Int} (h0 : 0 ≤ t) (h1 : t < 32054400) (hn : t % 86400 = n) : isB true f g t = if g < f then (decide (f ≤ n) || decide (n < g)) else (decide (f ≤ n) && decide (n < g)) := by
  subst hn
  unfold isB
  by_cases q : g < f
  · rw [if_pos q, Bool.eq_iff_iff, decide_eq_true_eq, Bool.or_eq_true, decide_eq_true_eq, decide_eq_true_eq]
    unfold NB nightP
    rw [if_pos q]
    exact ⟨fun h => h.2.2.2, fun h => ⟨h0, h1, rfl, h⟩⟩
  · rw [if_neg q, Bool.eq_iff_iff, decide_eq_true_eq, Bool.and_eq_true, decide_eq_true_eq, decide_eq_true_eq]
    unfold NB nightP
    rw [if_neg q]
    exact ⟨fun h => h.2.2.2, fun h => ⟨h0, h1, rfl, h⟩⟩
theorem isB_out {b : Bool} {f g t : Int} (h : b = false ∨ t < 0 ∨ 32054400 ≤ t) : isB b f g t = false := by
  unfold isB NB
  rw [decide_eq_false_iff_not]
  rintro ⟨h1, h2, h3, _⟩
  rcases h with h | h | h
  · rw [h] at h3; cases h3
  · omega
  · omega
set_option maxHeartbeats 4000000 in
theorem risnight_c {w : World} {s : SetP} {cs : Array Value} (h : SetC w s cs) (hf : s.Fit) (b : Bool) (hb : checkB s = b) (t : Int) (v : Bool) (hv : isB b s.nfrom s.nto t = v) :
    Calls Tryz.prog 77 #[.agg cs, .int .i64 t] w fun e w' => e = .returned (.bool v) ∧ Below w.heap.size w w' := by
  have HZ := Lib.hid h.size
  obtain ⟨q16, q17⟩ := setC_night h
  have hb0 := bel_alloc (Below.refl w.heap.size w) (.cells cs 30)
  have HB0 := Lib.hid (Has.new w 30 cs rfl)
  have HC := Lib.hid (rsetcheck_c (h.below hb0) hf b hb)
  generalize s.nfrom = f at *
  generalize s.nto = g at *
  clear h hf hb
  by_cases hout : b = false ∨ t < 0 ∨ 32054400 ≤ t
  · rw [isB_out hout] at hv
    subst hv
    cases b with
    | false =>
      go_enter Tryz.func77, Tryz.ntmps77
      go_wp2_with (refine wpList_load_sp (by rfl) _ rfl w.heap.size rfl cs HB0.out HZ.out ?_)
      refine HC.out.mono ?_
      rintro e w1 ⟨rfl, b1⟩
      have HB1 := Lib.hid (bel_on hb0 b1)
      clear b1 hb0 hout
      go_wp2
      go_ret
      exact ⟨rfl, HB1.out⟩
    | true =>
      by_cases h0 : t < 0
      all_goals
        first | (have h1 : 32054400 ≤ t := by rcases hout with k | k | k <;> first | omega | (cases k; done)) | skip
        clear hout
        go_enter Tryz.func77, Tryz.ntmps77
        go_wp2_with (refine wpList_load_sp (by rfl) _ rfl w.heap.size rfl cs HB0.out HZ.out ?_)
        refine HC.out.mono ?_
        rintro e w1 ⟨rfl, b1⟩
        have HB1 := Lib.hid (bel_on hb0 b1)
        clear b1 hb0
        go_wp2
        go_ret
        exact ⟨rfl, HB1.out⟩
  · obtain ⟨rfl, h0, h1⟩ : b = true ∧ 0 ≤ t ∧ t < 32054400 := by
      cases b with
      | false => exact absurd (.inl rfl) hout
      | true => exact ⟨rfl, by omega, by omega⟩
    clear hout
    obtain ⟨n, hn⟩ : ∃ n, t % 86400 = n := ⟨_, rfl⟩
    have hnt : t.tmod 86400 = n := by rw [Int.tmod_eq_emod_of_nonneg h0]; exact hn
    rw [isB_in h0 h1 hn] at hv
    clear hn
    have h0' : ¬ t < 0 := by omega
    have h1' : ¬ 32054400 ≤ t := by omega
    by_cases q : g < f
    all_goals
      by_cases k1 : f ≤ n
      all_goals
        by_cases k2 : n < g
        all_goals
          simp [q, k1, k2] at hv
          subst hv
          go_enter Tryz.func77, Tryz.ntmps77
          go_wp2_with (refine wpList_load_sp (by rfl) _ rfl w.heap.size rfl cs HB0.out HZ.out ?_)
          refine HC.out.mono ?_
          rintro e w1 ⟨rfl, b1⟩
          have HB1 := Lib.hid (bel_on hb0 b1)
          have c16 := (HB0.out.below b1).cell 16 q16
          have c17 := (HB0.out.below b1).cell 17 q17
          have hbw : w.heap.size < w1.heap.size := (HB0.out.below b1).size
          clear b1 hb0
          go_wp2
          all_goals
            go_ret
            refine ⟨ret_bool ?_, HB1.out⟩
            first | rfl | (simp; done) | (simp; omega)
end Go.Proofs.YtdlimgpmmkcgmaaGreat

namespace Go.Proofs.YtdlimgpmmkcgmaaGreat
open Go.RowKit
set_option linter.unusedVariables false
set_option linter.unusedSimpArgs false
set_option maxRecDepth 20000

def nonC : Array Value := #[.int .i64 0, .slice none 0 0, .int .i64 0, .int .i64 0, .slice none 0 0, .slice none 0 0, .slice none 0 0, .int .i64 0, .int .i64 0, .int .i64 0, .int .i64 0, .int .i64 0, .int .i64 0,
  .int .i64 0, .int .i64 0, .int .i64 0, .int .i64 0, .int .i64 0, .slice none 0 0, .int .i64 0, .int .i64 0, .int .i64 0, .slice none 0 0]
theorem nonC_V : setV SetP.none none none none none none none 0 0 0 0 0 0 = .agg nonC := rfl
theorem non_c (w : World) : SetC w SetP.none nonC := ⟨none, none, none, none, none, none, 0, 0, 0, 0, 0, 0, nonC_V, ⟨Tab.nil_, Tab.nil_, Tab.nil_, Tab.nil_, Tab.nil_, Tab.nil_⟩⟩
theorem tab_one14 {w : World} {g : Nat} (h : Has w g #[.int .i64 1]) : Tab 1 w (some ⟨g, 0, none⟩) 1 1 ([1].map fun n => [n]) := by
  refine ⟨⟨rfl, .inr ⟨_, rfl, fun j u hu => ?_⟩⟩, rfl, by simp, by simp [In64], by omega, by omega⟩
  rw [tab_add, Nat.zero_add]
  exact h.cell j (by simpa [ints] using hu)
/-- In a drawn region: a whole setup is read. -/
theorem exec_load_sp {o : Oper} {ρ : Operand → Value} {ww : World} (x : Operand) (ho : o.op = .load 30 x) {g : Nat} (hx : ρ x = .pointer (some ⟨g, 0, none⟩)) {cs : Array Value} (hg : Has ww g cs) (hs : cs.size = 23) :
    (execOp ρ o).run Tryz.prog ww = .ok (.value (.agg cs)) ww := by
  obtain ⟨t, hg⟩ := hg
  unfold execOp
  simp only [ho, hx, Instr.loadAt, Instr.sureAddr, Sem.run_bind, Sem.run_pure, Result.andThen_ok, run_loadVar_row (P := Tryz.prog) ww g t 30 cs (0, 0) _ hg Tryz.underlying30 rfl (by rw [hs]; kernel_rfl)]
/-- What a law carries over its calls: the setup, its variable, the spans. -/
structure Nx (w0 w : World) (g : Nat) (s : SetP) (cs : Array Value) (A : Option Addr) (xs : List (Int × Int)) : Prop where
  b : Below w0.heap.size w0 w
  c : SetC w s cs
  h : Has w g cs
  x : Spans w A xs
theorem Nx.below {w0 w w' : World} {g : Nat} {s : SetP} {cs : Array Value} {A : Option Addr} {xs : List (Int × Int)} (h : Nx w0 w g s cs A xs) (hb : Below w.heap.size w w') : Nx w0 w' g s cs A xs := ⟨bel_on h.b hb, h.c.below hb, h.h.below hb, h.x.below hb⟩
/-! ### few -/
end Go.Proofs.YtdlimgpmmkcgmaaGreat
