/-
  Package night: the hours by night of any day, and how they are put on a day.
  Package breaks: what stands near a day, found by the library's binary search; slices of spans cut.
-/
import Derived.Test.YtghfhoodbiiciaaGreatZaq
import Derived.Test.YtghfhoodbiiciaaGreatZal
import Derived.Test.YtghfhoodbiiciaaGreatZae
import Derived.Test.YtghfhoodbiiciaaGreatZar
import Derived.Test.YtghfhoodbiiciaaGreatZah
import Derived.Test.YtghfhoodbiiciaaGreatZak
import Derived.Laws.Slices
import Derived.BigQuiet
import Derived.Deep.QuietTactic
namespace Go.Proofs.YtghfhoodbiiciaaGreat
open Go.RowKit
set_option linter.unusedVariables false
set_option linter.unusedSimpArgs false
set_option maxRecDepth 20000

theorem setC_night {w : World} {s : SetP} {cs : Array Value} (h : SetC w s cs) : cs[16]? = some (.int .i64 s.nfrom) ∧ cs[17]? = some (.int .i64 s.nto) := by
  obtain ⟨A1, A2, A3, A4, A5, A6, c1, c2, c3, c4, c5, c6, h1, h2⟩ := h
  unfold setV at h1
  injection h1 with h1
  subst h1
  exact ⟨rfl, rfl⟩
theorem nw_of {s : SetP} {b : Bool} (hb : checkB s = b) : NW b s.nfrom s.nto := fun h => by
  have := check_iff.1 (hb.trans h)
  exact ⟨this.nfrom, this.nto⟩
/-- A literal slice of spans is a row of the call's own. -/
theorem row_new (w : World) (xs : List (Int × Int)) (cs : Array Value) (hcs : cs = (cells2 xs).toArray) (hl : xs.length ≤ 1000) {n : Nat} (hn : n = xs.length) {base : Nat} (hb : base ≤ w.heap.size) {s : Nat} (hs : w.heap.size = s) :
    Row (w.alloc (.cells cs 43)) base (some ⟨s, 0, none⟩) n xs := by
  subst hs
  subst hn
  subst hcs
  have := own_new w 43 2 xs.length (cells2 xs).toArray (by simp [cells2_len]) (by simp only [maxLen]; omega)
  have h2 : Row (w.alloc (.cells (cells2 xs).toArray 43)) w.heap.size (some ⟨w.heap.size, 0, none⟩) xs.length xs := this
  exact h2.mono hb
/-! ### A span more -/
theorem row_one {w : World} {base c : Nat} {A : Option Addr} {xs : List (Int × Int)} (h : Row w base A c xs) {n : Nat} (hn : xs.length = n) (a b : Int) (hm : n ≤ 1000000) (hbase : base ≤ w.heap.size) {s : Nat} (hs : w.heap.size = s) :
    ∃ A' c' w', (Builtin.append_ #[34, 34] 34 #[.slice A n c, .slice (some ⟨s, 0, none⟩) 1 1]).run Tryz.prog (w.alloc (.cells #[.int .i64 a, .int .i64 b] 43)) = .ok (.slice A' (n + 1) c') w' ∧ Row w' base A' c' (xs ++ [(a, b)]) ∧ Kept (fun b => b < base) w w' := by
  subst hn
  obtain ⟨A', c', w', hr, ho, _, hsz, hg, hl⟩ := row_push h a b (by omega) hbase hs
  refine ⟨A', c', w', hr, ho, ⟨hg.os, hg.tape, hg.output, hsz, fun k hk => ?_⟩⟩
  rw [hg.block k (by simp; omega) ?_]
  · exact Below.heap_alloc w _ k (by omega)
  · intro e
    cases A with
    | none => simp [Value.ownBlock] at e
    | some a0 =>
      simp [Value.ownBlock] at e
      have := (h.lt a0 rfl).1
      omega
theorem Kept.setn {F : Nat → Prop} {a w : World} (h : Kept F a w) {p : Addr} (hp : ¬ F p.block) (v : Value) : Kept F a (w.setCell p v) := by
  refine ⟨h.os, h.tape, h.output, ?_, fun b hb => ?_⟩
  · have := Kept.size h
    simp [World.setCell]
    exact this
  · rw [Below.heap_setCell w p v b (by rintro rfl; exact hp hb)]
    exact h.block b hb
theorem wrapn_id {a : Int} (h0 : -9223372036854775808 ≤ a) (h1 : a < 9223372036854775808) : IntKind.i64.wrap a = a := by
  simp [IntKind.wrap, IntKind.bits, IntKind.signed]
  split <;> omega
theorem spans_kept {F : Nat → Prop} {w w' : World} {A : Option Addr} {xs : List (Int × Int)} (h : Spans w A xs) (k : Kept F w w') (hF : ∀ g, A = some g → F g.block) : Spans w' A xs := by
  refine ⟨h.1, fun i hi => ?_⟩
  obtain ⟨b, off, rfl, h0, h1, h2⟩ := h.2 i hi
  have e := k.block b (hF _ rfl)
  exact ⟨b, off, rfl, Nat.lt_of_lt_of_le h0 (Kept.size k), (World.cell?_of_block e).trans h1, (World.cell?_of_block e).trans h2⟩

end Go.Proofs.YtghfhoodbiiciaaGreat

namespace Go.Proofs.YtghfhoodbiiciaaGreat
open Go.RowKit
set_option linter.unusedVariables false
set_option linter.unusedSimpArgs false
set_option maxRecDepth 20000

/-! ### Slices of spans cut -/
theorem sp_size (w : World) : (sizeOf (Tryz.prog.elem 34)).run Tryz.prog w = .ok 2 w := by kernel_rfl
theorem wpList_slice_runB {P : Program} {ops : Array Oper} {rest : List Oper} {o : Oper} {a : Act} {w : World} {Q : Exit → Act → World → Prop} {x : Operand} {l h m : Option Operand} {t : TypeId} {v v' : Value} {lo hi mx : Option Value}
    (hr : ∀ w', (Instr.sliceAt t v lo hi mx).run P w' = .ok v' w') (hgd : o.guard = none)
    (ho : o.op = .slice t x l h m) (hx : a.eval x = v) (h1 : l.map a.eval = lo) (h2 : h.map a.eval = hi) (h3 : m.map a.eval = mx)
    (hk : wpList P ops Q rest (a.put o.dst v') w) : wpList P ops Q (o :: rest) a w := by
  refine wpList_plain hgd fun K hK => ?_
  unfold Oper.wp
  simp [execOp, ho, hx, h1, h2, h3, hr, Result.andThen]
  exact hK _ _ hk
theorem cut_get {L : List (Int × Int)} {a b k : Nat} (hb : b ≤ L.length) (hk : k < b - a) : ((L.take b).drop a).getD k (0, 0) = L.getD (a + k) (0, 0) := by
  simp [List.getD, List.getElem?_drop, List.getElem?_take, show a + k < b by omega]
theorem cut_len {L : List (Int × Int)} {a b : Nat} (hb : b ≤ L.length) : ((L.take b).drop a).length = b - a := by rw [List.length_drop, List.length_take]; omega
theorem spcut {A : Option Addr} {n c : Nat} {L : List (Int × Int)} (hn : L.length = n) (hnc : n ≤ c) (hc : c ≤ 9223372036854775807) {a b : Nat} (hab : a ≤ b) (hb : b ≤ n) :
    ∃ A', (∀ w', (Instr.sliceAt 34 (.slice A n c) (some (.int .i64 (a : Int))) (some (.int .i64 (b : Int))) none).run Tryz.prog w' = .ok (.slice A' (b - a) (c - a)) w') ∧ ∀ w, Spans w A L → Spans w A' ((L.take b).drop a) := by
  have hrun : ∀ w', (Instr.sliceAt 34 (.slice A n c) (some (.int .i64 (a : Int))) (some (.int .i64 (b : Int))) none).run Tryz.prog w' = .ok (.slice (if c = a then A else A.map (·.add (a * 2))) (b - a) (c - a)) w' := by
    intro w'
    rw [run_sliceAt_slice _ _ _ _ _ _ Tryz.underlying34, run_slice_lh _ _ _ _ _ Tryz.underlying34 .i64 .i64 (a : Int) (b : Int) (by omega) (by omega) (by omega), sp_size]
    simp [sliced, Result.andThen]
  refine ⟨_, hrun, fun w h => ⟨fun x hx => h.1 x (List.mem_of_mem_take (List.mem_of_mem_drop hx)), fun k hk => ?_⟩⟩
  rw [cut_len (by omega)] at hk
  obtain ⟨g, off, rfl, h0, h1, h2⟩ := h.2 (a + k) (by omega)
  rw [cut_get (by omega) hk, if_neg (by omega)]
  refine ⟨g, off + a * 2, by rw [Option.map_some, add_none], h0, ?_, ?_⟩
  · rw [show off + a * 2 + k * 2 = off + (a + k) * 2 by omega]; exact h1
  · rw [show off + a * 2 + k * 2 + 1 = off + (a + k) * 2 + 1 by omega]; exact h2

/-! ### The library's binary search -/
set_option maxHeartbeats 4000000 in
theorem search_c (F : FuncId) (p1 p2 : Value) (n : Nat) (p : Nat → Bool) (w : World) (eg : ∀ args w, (callFunc F args).run Tryz.prog w = .ok (.enter F args) w) (hn : n ≤ 100000000)
    (hf : ∀ W i, Below w.heap.size w W → i < n → Calls Tryz.prog F #[.int .i64 (i : Nat), p1, p2] W fun e w' => e = .returned (.bool (p i)) ∧ Below W.heap.size W w')
    (hmono : ∀ a b, a ≤ b → b < n → p a = true → p b = true) :
    Calls Tryz.prog 39 #[.int .i64 n, .func (.func F) #[] #[p1, p2]] w fun e w' => ∃ r : Nat, e = .returned (.int .i64 r) ∧ r ≤ n ∧ (∀ i, i < r → p i = false) ∧ (∀ i, r ≤ i → i < n → p i = true) ∧ Below w.heap.size w w' := by
  have HF := Lib.hid hf
  have HM := Lib.hid hmono
  clear hf hmono
  go_enter Tryz.func39, Tryz.ntmps39
  go_wp2
  go_loopg [5, 6] n (fun kx s5 s6 wr => ∃ (lo hi : Nat), s5 = .int .i64 lo ∧ s6 = .int .i64 hi ∧ lo ≤ hi ∧ hi ≤ n ∧ hi - lo ≤ kx ∧ Hid (Below w.heap.size w wr) ∧ Hid ((∀ t, t < lo → p t = false) ∧ (∀ t, hi ≤ t → t < n → p t = true)))
  case atStart => exact ⟨0, n, rfl, rfl, Nat.zero_le _, Nat.le_refl _, by omega, Below.refl _ _, (⟨fun t ht => absurd ht (Nat.not_lt_zero _), fun t h1 h2 => by omega⟩ : (∀ t, t < 0 → p t = false) ∧ (∀ t, n ≤ t → t < n → p t = true))⟩
  case round =>
    obtain ⟨lo, hi, rfl, rfl, hlh, hin, hg, HW, HI⟩ := hrel
    by_cases hlt : lo < hi
    · have hc := HF.out wr ((lo + hi) / 2) HW.out (by omega)
      rw [show (((lo + hi) / 2 : Nat) : Int) = ((lo : Int) + (hi : Int)) / 2 by omega] at hc
      cases hp : p ((lo + hi) / 2) with
      | false =>
        rw [hp] at hc
        have HC := Lib.hid hc
        have HI2 : Hid ((∀ t, t < (lo + hi) / 2 + 1 → p t = false) ∧ (∀ t, hi ≤ t → t < n → p t = true)) := ⟨fun t ht => (by
            cases h : p t with
            | false => rfl
            | true => have := HM.out t ((lo + hi) / 2) (by omega) (by omega) h; rw [hp] at this; cases this), HI.out.2⟩
        clear hp hc HI
        go_wp2_with fail
        refine HC.out.mono ?_
        rintro e w5 ⟨rfl, hb5⟩
        have HW5 := Lib.hid (bel_on HW.out hb5)
        clear hb5 HW HC
        go_wp2
        go_roundg (hi - ((lo + hi) / 2 + 1))
        case measure => omega
        case rel => exact ⟨(lo + hi) / 2 + 1, hi, by rw [show ((lo : Int) + (hi : Int)) / 2 + 1 = (((lo + hi) / 2 + 1 : Nat) : Int) by omega], rfl, by omega, hin, Nat.le_refl _, HW5, HI2⟩
      | true =>
        rw [hp] at hc
        have HC := Lib.hid hc
        have HI2 : Hid ((∀ t, t < lo → p t = false) ∧ (∀ t, (lo + hi) / 2 ≤ t → t < n → p t = true)) := ⟨HI.out.1, fun t ht htn => HM.out ((lo + hi) / 2) t ht htn hp⟩
        clear hp hc HI
        go_wp2_with fail
        refine HC.out.mono ?_
        rintro e w5 ⟨rfl, hb5⟩
        have HW5 := Lib.hid (bel_on HW.out hb5)
        clear hb5 HW HC
        go_wp2
        go_roundg ((lo + hi) / 2 - lo)
        case measure => omega
        case rel => exact ⟨lo, (lo + hi) / 2, rfl, by rw [show ((lo : Int) + (hi : Int)) / 2 = (((lo + hi) / 2 : Nat) : Int) by omega], by omega, by omega, Nat.le_refl _, HW5, HI2⟩
    · obtain rfl : hi = lo := by omega
      go_wp2
      go_ret
      exact ⟨hi, rfl, hin, HI.out.1, HI.out.2, HW.out⟩

/-! ### near -/
set_option maxHeartbeats 1000000 in
theorem near1_c (gL gD : Nat) (A : Option Addr) (n c : Nat) (L : List (Int × Int)) (d : Int) (i : Nat) (w : World) (hL : Has w gL #[.slice A n c]) (hD : Has w gD #[.int .i64 d]) (hx : Spans w A L) (hn : L.length = n) (hP : PlainFrom 0 L) (hi : i < n) :
    Calls Tryz.prog 40 #[.int .i64 (i : Nat), .pointer (some ⟨gL, 0, none⟩), .pointer (some ⟨gD, 0, none⟩)] w fun e w' => e = .returned (.bool (ndA L d i)) ∧ Below w.heap.size w w' := by
  obtain ⟨b, off, rfl, hb, c1, c2⟩ := hx.2 i (by omega)
  have hz := plain_get hP (show i < L.length by omega)
  unfold ndA
  generalize L.getD i (0, 0) = z at *
  obtain ⟨x, y⟩ := z
  simp only [] at c1 c2 hz
  obtain ⟨z0, z1, z2⟩ := hz
  have k0 := hL.cell 0 rfl
  have k1 := hD.cell 0 rfl
  have s0 := hL.size
  have s1 := hD.size
  have i0 : (0 : Int) ≤ (i : Int) := by omega
  have i1 : (i : Int) < (n : Int) := by omega
  have wy : IntKind.i64.wrap (y - 1) = y - 1 := wrapn_id (by omega) (by omega)
  have HDY := Lib.hid (fun W => (day_any (y - 1) W).mono fun _ _ h => And.intro h.1 h.2.symm)
  generalize dayP (y - 1) = r at *
  clear hL hD hx hn hP
  go_enter Tryz.func40, Tryz.ntmps40
  go_wp2
  go_quiet ((go_at_call 41; with_reducible exact Calls.quiet_of_same (HDY.out _)))
  go_wp2
  go_ret
  exact ⟨rfl, below_drewN (Below.refl _ _) _⟩
set_option maxHeartbeats 1000000 in
theorem near2_c (gL gD : Nat) (A : Option Addr) (n c : Nat) (L : List (Int × Int)) (d : Int) (i : Nat) (w : World) (hL : Has w gL #[.slice A n c]) (hD : Has w gD #[.int .i64 d]) (hx : Spans w A L) (hn : L.length = n) (hi : i < n) :
    Calls Tryz.prog 42 #[.int .i64 (i : Nat), .pointer (some ⟨gL, 0, none⟩), .pointer (some ⟨gD, 0, none⟩)] w fun e w' => e = .returned (.bool (ndB L d i)) ∧ Below w.heap.size w w' := by
  obtain ⟨b, off, rfl, hb, c1, c2⟩ := hx.2 i (by omega)
  unfold ndB
  generalize L.getD i (0, 0) = z at *
  obtain ⟨x, y⟩ := z
  simp only [] at c1 c2
  have k0 := hL.cell 0 rfl
  have k1 := hD.cell 0 rfl
  have s0 := hL.size
  have s1 := hD.size
  have i0 : (0 : Int) ≤ (i : Int) := by omega
  have i1 : (i : Int) < (n : Int) := by omega
  have HDY := Lib.hid (fun W => (day_any x W).mono fun _ _ h => And.intro h.1 h.2.symm)
  generalize dayP x = r at *
  clear hL hD hx hn
  go_enter Tryz.func42, Tryz.ntmps42
  go_wp2
  go_quiet ((go_at_call 41; with_reducible exact Calls.quiet_of_same (HDY.out _)))
  go_wp2
  go_ret
  exact ⟨rfl, below_drewN (Below.refl _ _) _⟩
/-- What stands near a day of plain spans. -/
def Near (w : World) (L : List (Int × Int)) (d : Int) (e : Ending) (w' : World) : Prop :=
  ∃ A' c' M, e = .returned (.slice A' M.length c') ∧ Spans w' A' M ∧ M.length ≤ L.length ∧ (∀ t, t / 86400 = d → (In M t ↔ In L t)) ∧ Below w.heap.size w w'
set_option maxHeartbeats 2000000 in
theorem bnear_any (A : Option Addr) (n c : Nat) (L : List (Int × Int)) (d : Int) (w : World) (hx : Spans w A L) (hn : L.length = n) (hP : PlainFrom 0 L) (hl : n ≤ 100000000) (hnc : n ≤ c) (hc : c ≤ 9223372036854775807) :
    Calls Tryz.prog 17 #[.slice A n c, .int .i64 d] w (Near w L d) := by
  have hb0 := bel_alloc (bel_alloc (Below.refl w.heap.size w) (.cells #[.slice A n c] 34)) (.cells #[.int .i64 d] 3)
  have HL0 := Lib.hid ((Has.new w 34 #[.slice A n c] rfl).alloc (.cells #[.int .i64 d] 3))
  have HD0 : Hid (Has ((w.alloc (.cells #[.slice A n c] 34)).alloc (.cells #[.int .i64 d] 3)) (w.heap.size + 1) #[.int .i64 d]) := Has.new _ _ _ (by simp)
  have HX0 := Lib.hid (hx.below hb0)
  have HB0 := Lib.hid hb0
  have HP := Lib.hid hP
  have eg1 : ∀ args w, (callFunc 40 args).run Tryz.prog w = .ok (.enter 40 args) w := enters_of Tryz.func40 (by kernel_rfl) rfl
  have eg2 : ∀ args w, (callFunc 42 args).run Tryz.prog w = .ok (.enter 42 args) w := enters_of Tryz.func42 (by kernel_rfl) rfl
  have EG1 := Lib.hid eg1
  have EG2 := Lib.hid eg2
  have k0 := HL0.out.cell 0 rfl
  have s0 := HL0.out.size
  clear hx hb0 hP eg1 eg2
  obtain ⟨gD, hgD⟩ : ∃ g, w.heap.size + 1 = g := ⟨_, rfl⟩
  rw [hgD] at HD0
  have hgL : w.heap.size < gD := by omega
  have HN := Lib.hid hn
  clear hn
  go_enter Tryz.func17, Tryz.ntmps17
  go_wp2_with fail
  (try rw [hgD])
  clear hgD
  generalize (w.alloc (.cells #[.slice A n c] 34)).alloc (.cells #[.int .i64 d] 3) = w1 at *

  refine (search_c 40 _ _ n (ndA L d) w1 EG1.out hl (fun W i hW hi => near1_c w.heap.size gD A n c L d i W (HL0.out.below hW) (HD0.out.below hW) (HX0.out.below hW) HN.out HP.out hi) (fun a b h1 h2 h3 => ndA_mono HP.out d h1 (by rw [HN.out]; exact h2) h3)).mono ?_
  rintro e w2 ⟨a, rfl, ha, ha1, ha2, hb2⟩
  have HA := Lib.hid ha1
  have HL2 := Lib.hid (HL0.out.below hb2)
  have HD2 := Lib.hid (HD0.out.below hb2)
  have HX2 := Lib.hid (HX0.out.below hb2)
  have HB2 := Lib.hid (bel_on HB0.out hb2)
  have k2 := HL2.out.cell 0 rfl
  have s2 := HL2.out.size
  clear ha1 ha2 hb2 k0 s0 HL0 HD0 HX0 HB0
  go_wp2_with fail
  refine (search_c 42 _ _ n (ndB L d) w2 EG2.out hl (fun W i hW hi => near2_c w.heap.size gD A n c L d i W (HL2.out.below hW) (HD2.out.below hW) (HX2.out.below hW) HN.out hi) (fun a b h1 h2 h3 => ndB_mono HP.out d h1 (by rw [HN.out]; exact h2) h3)).mono ?_
  rintro e w3 ⟨b, rfl, hb, hb1, hb2', hb3⟩
  have hab : a ≤ b := near_le HP.out d (by rw [HN.out]; exact ha) (by rw [HN.out]; exact hb) HA.out (by rw [HN.out]; exact hb2')
  have HIN : Hid (∀ t, t / 86400 = d → (In ((L.take b).drop a) t ↔ In L t)) := fun t ht => near_in HP.out d (by rw [HN.out]; exact ha) (by rw [HN.out]; exact hb) HA.out (by rw [HN.out]; exact hb2') ht
  have HX3 := Lib.hid (HX2.out.below hb3)
  have HL3 := Lib.hid (HL2.out.below hb3)
  have HB3 := Lib.hid (bel_on HB2.out hb3)
  have k3 := HL3.out.cell 0 rfl
  have s3 := HL3.out.size
  obtain ⟨A', hr, hs⟩ := spcut (A := A) HN.out hnc hc hab hb
  have HR := Lib.hid hr
  have HS := Lib.hid (hs _ HX3.out)
  have hle : ((L.take b).drop a).length ≤ L.length := by rw [cut_len (by rw [HN.out]; exact hb), HN.out]; omega
  have HLE := Lib.hid hle
  have hm : ((L.take b).drop a).length = b - a := cut_len (by rw [HN.out]; exact hb)
  have HMM := Lib.hid hm
  clear hb1 hb2' hb3 k2 s2 HL2 HD2 HX2 HB2 hr hs hle hm
  go_wp2_with (refine wpList_slice_runB HR.out rfl rfl rfl rfl rfl rfl ?_)
  go_ret
  exact ⟨A', c - a, _, by rw [HMM.out]; rfl, HS.out, HLE.out, HIN.out, HB3.out⟩
end Go.Proofs.YtghfhoodbiiciaaGreat
