/-
  Package setup: what writes: a number more.
  Package setup: what reads: one number.
  Package setup: lists, where they are read.
  Package setup: Write and Read, each in one form.
  Setups as values with a letter for their cells; lumperref07.Few; setups that the laws lay.
  The document's own answers of layer 5 (lumperref05): bytes of numbers.
-/
import Derived.Test.YtgfomfioagblfaaZak
import Derived.Test.YtgfomfioagblfaaZad
import Derived.Deep.DeepCutAuto
import Derived.Laws.EntriesVeiled
import Derived.WideLaws
import Derived.Test.YtgfomfioagblfaaZac
import Derived.Test.YtgfomfioagblfaaZaa
import Derived.Test.YtgfomfioagblfaaZaf
import Derived.Deep.OwnRows
import Derived.Test.YtgfomfioagblfaaZab
import Derived.Laws.CopyOwn
import Derived.Laws.Cover1
import Derived.Deep.WholeRow
namespace Go.Proofs.Ytgfomfioagblfaa
open Go.RowKit
set_option linter.unusedVariables false
set_option linter.unusedSimpArgs false
set_option maxRecDepth 20000

/-- What writes lies at block g, and holds the bytes l; the blocks F are not its own. -/
structure WPen (F : Nat → Prop) (g : Nat) (l : List (BitVec 8)) (w : World) : Prop where
  lay : ∃ A c, Has w g #[.slice A l.length c] ∧ BRow w 0 A c l ∧ ∀ a, A = some a → ¬ F a.block ∧ a.block ≠ g
  out : ¬ F g
  low : ∀ b, F b → b < w.heap.size
theorem WPen.keep {F : Nat → Prop} {g : Nat} {l : List (BitVec 8)} {w w' : World} (h : WPen F g l w) (hb : Below w.heap.size w w') : WPen F g l w' := by
  obtain ⟨⟨A, c, h1, h2, h3⟩, h4, h5⟩ := h
  exact ⟨⟨A, c, h1.below hb, h2.below hb, h3⟩, h4, fun b hF => Nat.lt_of_lt_of_le (h5 b hF) hb.size⟩
theorem WPen.less {F G : Nat → Prop} {g : Nat} {l : List (BitVec 8)} {w : World} (h : WPen F g l w) (hG : ∀ b, G b → F b) : WPen G g l w := by
  obtain ⟨⟨A, c, h1, h2, h3⟩, h4, h5⟩ := h
  exact ⟨⟨A, c, h1, h2, fun a ha => ⟨fun k => (h3 a ha).1 (hG _ k), (h3 a ha).2⟩⟩, fun k => h4 (hG _ k), fun b k => h5 b (hG _ k)⟩
theorem Kept.set {F : Nat → Prop} {a w : World} (h : Kept F a w) {p : Addr} (hp : ¬ F p.block) (v : Value) : Kept F a (w.setCell p v) :=
  ⟨h.os, h.tape, h.output, by have := h.size; simp [World.setCell]; exact this, fun b hb => (Below.heap_setCell w p v b (fun e => hp (e ▸ hb))).trans (h.block b hb)⟩
theorem Kept.alloc {F : Nat → Prop} {a w : World} (h : Kept F a w) (hF : ∀ b, F b → b < w.heap.size) (o : Obj) : Kept F a (w.alloc o) :=
  h.on (.of_below (bel_alloc (Below.refl _ _) o) hF)
end Go.Proofs.Ytgfomfioagblfaa

namespace Go.Proofs.Ytgfomfioagblfaa
open Go.RowKit
set_option linter.unusedVariables false
set_option linter.unusedSimpArgs false
set_option maxRecDepth 20000

/-- What reads lies at block g, and has the bytes l left, which lie where they lay in R0; the blocks F are not its own. -/
structure RPen (R0 : World) (F : Nat → Prop) (g : Nat) (l : List (BitVec 8)) (w : World) : Prop where
  lay : ∃ A c, Has w g #[.slice A l.length c] ∧ (∀ w0, Below R0.heap.size R0 w0 → Sl 1 w0 A l.length c (bytesV l)) ∧ l.length ≤ c
  bel : Below R0.heap.size R0 w
  own : R0.heap.size ≤ g
  out : ¬ F g
  low : ∀ b, F b → b < w.heap.size
theorem RPen.keep {R0 : World} {F : Nat → Prop} {g : Nat} {l : List (BitVec 8)} {w w' : World} (h : RPen R0 F g l w) (hb : Below w.heap.size w w') : RPen R0 F g l w' := by
  obtain ⟨⟨A, c, h1, h2, h3⟩, h4, h5, h6, h7⟩ := h
  exact ⟨⟨A, c, h1.below hb, h2, h3⟩, bel_on h4 hb, h5, h6, fun b hF => Nat.lt_of_lt_of_le (h7 b hF) hb.size⟩
theorem RPen.less {R0 : World} {F G : Nat → Prop} {g : Nat} {l : List (BitVec 8)} {w : World} (h : RPen R0 F g l w) (hG : ∀ b, G b → F b) : RPen R0 G g l w := by
  obtain ⟨h1, h4, h5, h6, h7⟩ := h
  exact ⟨h1, h4, h5, fun k => h6 (hG _ k), fun b k => h7 b (hG _ k)⟩
theorem RPen.size {R0 : World} {F : Nat → Prop} {g : Nat} {l : List (BitVec 8)} {w : World} (h : RPen R0 F g l w) : R0.heap.size ≤ w.heap.size := h.bel.size
end Go.Proofs.Ytgfomfioagblfaa

namespace Go.Proofs.Ytgfomfioagblfaa
open Go.RowKit
set_option linter.unusedVariables false
set_option linter.unusedSimpArgs false
set_option maxRecDepth 20000

theorem RPen.set {R0 : World} {F : Nat → Prop} {g : Nat} {l : List (BitVec 8)} {w : World} (h : RPen R0 F g l w) {p : Addr} (hp : R0.heap.size ≤ p.block) (hg : g ≠ p.block) (v : Value) : RPen R0 F g l (w.setCell p v) := by
  obtain ⟨⟨A, c, h1, h2, h3⟩, h4, h5, h6, h7⟩ := h
  exact ⟨⟨A, c, h1.far hg v, h2, h3⟩, h4.setCell hp v, h5, h6, fun b hb => by have := h7 b hb; simp [World.setCell]; exact this⟩

end Go.Proofs.Ytgfomfioagblfaa

namespace Go.Proofs.Ytgfomfioagblfaa
open Go.RowKit
set_option linter.unusedVariables false
set_option linter.unusedSimpArgs false
set_option maxRecDepth 20000

theorem setV_cells (s : SetP) (A1 A2 A3 A4 A5 A6 : Option Addr) (c1 c2 c3 c4 c5 c6 : Nat) (cs : Array Value) (h : setV s A1 A2 A3 A4 A5 A6 c1 c2 c3 c4 c5 c6 = .agg cs) : cs.size = 23 ∧ cs.all (·.oneCell') = true := by
  unfold setV at h
  injection h with h
  subst h
  exact ⟨rfl, by simp [Value.oneCell']⟩
end Go.Proofs.Ytgfomfioagblfaa

namespace Go.Proofs.Ytgfomfioagblfaa
open Go.RowKit
set_option linter.unusedVariables false
set_option linter.unusedSimpArgs false
set_option maxRecDepth 20000

/-- The cells cs are those of the setup s. -/
def SetC (w : World) (s : SetP) (cs : Array Value) : Prop := ∃ (A1 A2 A3 A4 A5 A6 : Option Addr) (c1 c2 c3 c4 c5 c6 : Nat), setV s A1 A2 A3 A4 A5 A6 c1 c2 c3 c4 c5 c6 = .agg cs ∧ SetAt w s A1 A2 A3 A4 A5 A6 c1 c2 c3 c4 c5 c6
section
variable {w w' : World} {s : SetP} {cs : Array Value}
theorem SetC.below (h : SetC w s cs) (hb : Below w.heap.size w w') : SetC w' s cs := by
  obtain ⟨A1, A2, A3, A4, A5, A6, c1, c2, c3, c4, c5, c6, h1, h2⟩ := h
  exact ⟨A1, A2, A3, A4, A5, A6, c1, c2, c3, c4, c5, c6, h1, h2.below hb⟩
theorem SetC.size (h : SetC w s cs) : cs.size = 23 := by
  obtain ⟨A1, A2, A3, A4, A5, A6, c1, c2, c3, c4, c5, c6, h1, h2⟩ := h
  exact (setV_cells _ _ _ _ _ _ _ _ _ _ _ _ _ _ h1).1
end
/-! ### Few -/
def mxI (x y : Int) : Int := if y > x then y else x
theorem run_max6 {P : Program} {w : World} (ts : Array TypeId) (t : TypeId) (a b c d e f : Int) : (Builtin.max_ ts t #[.int .i64 a, .int .i64 b, .int .i64 c, .int .i64 d, .int .i64 e, .int .i64 f]).run P w = .ok (.int .i64 (mxI (mxI (mxI (mxI (mxI a b) c) d) e) f)) w := by
  simp [Builtin.max_, Builtin.max2, mxI]
theorem mx_le {x y z : Int} : mxI x y ≤ z ↔ x ≤ z ∧ y ≤ z := by
  unfold mxI
  split <;> omega
theorem wpList_max6 {P : Program} {ops : Array Oper} {rest : List Oper} {o : Oper} {a : Act} {w : World} {Q : Exit → Act → World → Prop} {x1 x2 x3 x4 x5 x6 : Operand} {ts : Array TypeId} (n1 n2 n3 n4 n5 n6 : Int) (hgd : o.guard = none)
    (ho : o.op = .call { callee := .builtin .max, args := #[x1, x2, x3, x4, x5, x6], argTypes := ts }) (h1 : a.eval x1 = .int .i64 n1) (h2 : a.eval x2 = .int .i64 n2) (h3 : a.eval x3 = .int .i64 n3) (h4 : a.eval x4 = .int .i64 n4) (h5 : a.eval x5 = .int .i64 n5) (h6 : a.eval x6 = .int .i64 n6)
    (m : Int) (hm : mxI (mxI (mxI (mxI (mxI n1 n2) n3) n4) n5) n6 = m)
    (h : wpList P ops Q rest (a.put o.dst (.int .i64 m)) w) : wpList P ops Q (o :: rest) a w := by
  refine wpList_plain hgd fun K hK => ?_
  unfold Oper.wp execOp
  simp only [ho, resolve, invoke, builtin, Sem.run_bind, Sem.run_pure, Result.andThen_ok, List.map_toArray, List.map_cons, List.map_nil, h1, h2, h3, h4, h5, h6, run_max6, hm]
  exact hK _ _ h
def SetP.Few (s : SetP) : Prop := s.ways.length ≤ 100 ∧ s.elements.length ≤ 100 ∧ s.classes.length ≤ 100 ∧ s.gears.length ≤ 100 ∧ s.rates.length ≤ 100 ∧ s.tiers.length ≤ 100
instance (s : SetP) : Decidable s.Few := by unfold SetP.Few; infer_instance
/-! ### least -/
end Go.Proofs.Ytgfomfioagblfaa

namespace Go.Proofs.Ytgfomfioagblfaa
open Go.RowKit
set_option linter.unusedVariables false
set_option maxRecDepth 20000

theorem rdigits_any (n : Nat) : ∀ (w : World), n < 9223372036854775808 →
    Calls Try.prog 40 #[.int .i64 n] w fun e w' => ∃ A c, e = .returned (.slice A (digs n).length c) ∧ BRow w' w.heap.size A c (bytN (digs n)) ∧ Below w.heap.size w w' := by
  induction n using Nat.strongRecOn with
  | _ n ih =>
    intro w hn
    rcases Nat.eq_zero_or_pos n with rfl | h0
    · rw [digs_zero]
      go_enter Try.func40, Try.ntmps40
      go_wp2
      go_ret
      exact ⟨none, 0, rfl, BRow.nil _ _, Below.refl _ _⟩
    · have hk := digs_step h0
      have h8 := digs_eight hn
      have hsn : bytN (digs n) = bytN (digs (n / 256)) ++ [BitVec.ofNat 8 (n % 256)] := by rw [digs_pos h0]; simp [bytN]
      have HI := Lib.hid (ih (n / 256) (by omega) · (by omega))
      rw [show ((n / 256 : Nat) : Int) = (n : Int) / 256 by omega] at HI
      have hl : (bytN (digs (n / 256))).length = (digs (n / 256)).length := bytN_len _
      rw [hk, hsn]
      have e8 : ((BitVec.ofNat 8 (n % 256)).toNat : Int) = (n : Int) % 256 := by rw [BitVec.toNat_ofNat]; omega
      generalize hD : (digs (n / 256)).length = d at *
      generalize bytN (digs (n / 256)) = D at *
      have hn0 : ((n : Int) == 0) = false := by simp; omega
      have hd9 : d ≤ 9 := by omega
      clear hD hk hsn h8 ih
      go_enter Try.func40, Try.ntmps40
      go_wp2_with fail
      refine (HI.out w).mono ?_
      rintro e w1 ⟨A1, c1, rfl, r1, b1⟩
      obtain ⟨A2, c2, w2, hr2, r2, hbel2, hz2⟩ := brow_push r1 (BitVec.ofNat 8 (n % 256)) (by omega) b1.size (s := w1.heap.size) rfl
      rw [v8, e8, hl] at hr2
      have HR2 := Lib.hid hr2
      clear hr2
      go_wp2_with (at_builtin; refine wpList_append_run HR2.out rfl rfl rfl rfl ?_)
      go_ret
      exact ⟨A2, c2, rfl, r2, hbel2 w (Nat.le_refl _) b1⟩
theorem rone_any (n : Nat) (o : Nat) (w : World) (hn : n < 9223372036854775808) (ho : (oneB n).length = o) :
    Calls Try.prog 34 #[.int .i64 n] w fun e w' => ∃ A c, e = .returned (.slice A o c) ∧ BRow w' w.heap.size A c (oneB n) ∧ Below w.heap.size w w' := by
  have h8 := digs_eight hn
  have HI := Lib.hid (rdigits_any n w hn)
  have hl : (bytN (digs n)).length = (digs n).length := bytN_len _
  have hone : oneB n = [BitVec.ofNat 8 (digs n).length] ++ bytN (digs n) := rfl
  rw [one_len] at ho
  rw [hone]
  generalize (digs n).length = d at *
  generalize bytN (digs n) = D at *
  have e8 : ((BitVec.ofNat 8 d).toNat : Int) = (d : Int) := by rw [BitVec.toNat_ofNat]; omega
  subst ho
  clear hone
  go_enter Try.func34, Try.ntmps34
  go_wp2_with fail
  refine HI.out.mono ?_
  rintro e w1 ⟨A1, c1, rfl, r1, b1⟩
  have r2 : BRow (w1.alloc (.cells #[v8 (BitVec.ofNat 8 d)] 5)) w1.heap.size (some ⟨w1.heap.size, 0, none⟩) 1 [BitVec.ofNat 8 d] := own_new w1 5 1 1 #[v8 (BitVec.ofNat 8 d)] rfl (by decide)
  obtain ⟨A3, c3, w3, hr3, r3, hbel3, _⟩ := brow_append r2 (r1.sl.alloc _) (by rw [hl]; simp; omega) (by simp)
  rw [hl] at hr3
  simp only [List.length_cons, List.length_nil, Nat.zero_add] at hr3
  rw [v8, e8, Nat.add_comm 1 d] at hr3
  have HR3 := Lib.hid hr3
  have b3 := hbel3 w1 (Nat.le_refl _) (bel_alloc (Below.refl _ _) _)
  clear hr3
  go_wp2_with (at_builtin; refine wpList_append_run HR3.out rfl rfl rfl rfl ?_)
  go_ret
  exact ⟨A3, c3, rfl, r3.mono b1.size, bel_on b1 b3⟩
/-- A copy: what '[]byte{}' and an append make. -/
theorem brow_copy (w : World) {B : Option Addr} {m d : Nat} {ys : List (BitVec 8)} (hs : Sl 1 w B m d (bytesV ys)) (hm : m ≤ 10000000000000) :
    ∃ A' c' w', (Builtin.append_ #[34, 34] 34 #[.slice (some ⟨w.heap.size, 0, none⟩) 0 0, .slice B m d]).run Try.prog (w.alloc (.cells #[] 5)) = .ok (.slice A' m c') w' ∧ BRow w' w.heap.size A' c' ys ∧ Below w.heap.size w w' ∧ w.heap.size ≤ w'.heap.size := by
  have ho : BRow (w.alloc (.cells #[] 5)) w.heap.size (some ⟨w.heap.size, 0, none⟩) 0 [] := own_new w 5 1 0 #[] rfl (by decide)
  have hl := hs.blen
  subst hl
  obtain ⟨A', c', w', hr, hrow, hb, hg, _⟩ := brow_append ho (hs.alloc _) (by simp; omega) (by simp)
  rw [List.nil_append] at hrow
  simp only [List.length_nil, Nat.zero_add] at hr
  exact ⟨A', c', w', hr, hrow, hb w (Nat.le_refl _) (bel_alloc (Below.refl _ _) _), by have := hg.size; simp at this; omega⟩
end Go.Proofs.Ytgfomfioagblfaa
