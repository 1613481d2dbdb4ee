/-
  The two functions that package span's loops range over: slices.Values, and what is between plain spans.
  The contract of package span's within: what plain spans have of the parts that a function hands out.
  The contracts of package span's functions, continued: And, Minus, Last.
  The contracts of package lumperref03's functions, continued: First, Last, Same; and of the statements' own helpers plain and few.
-/
import Derived.Test.YtbijaaglmhoopaaZaw
import Derived.Test.YtbijaaglmhoopaaZak
import Derived.Shelf.RegionOpen
import Derived.OwnWalkIn
import Derived.TacticsInMore
import Derived.LoopNIn
import Derived.LoopIn
namespace Go.Proofs.Ytbijaaglmhoopaa
open Go.RowKit
set_option linter.unusedVariables false
attribute [local go_sem] Oper.semAt_some

/-- A slice value over A reads as the spans xs, from below n. -/
def Lies (n : Nat) (w : World) (A : Option Addr) (xs : List (Int × Int)) : Prop :=
  ∀ k, k < xs.length → ∃ b off, A = some ⟨b, off, none⟩ ∧ b < n ∧ w.cell? ⟨b, off + k * 2, none⟩ = some (.int .i64 (xs.getD k (0, 0)).1) ∧ w.cell? ⟨b, off + k * 2 + 1, none⟩ = some (.int .i64 (xs.getD k (0, 0)).2)
theorem Lies.below {n : Nat} {w w' : World} {A : Option Addr} {xs : List (Int × Int)} (h : Lies n w A xs) (hb : Below n w w') : Lies n w' A xs := fun k hk => by
  obtain ⟨b, off, e, h0, h1, h2⟩ := h k hk
  exact ⟨b, off, e, h0, (hb.cell h0).trans h1, (hb.cell h0).trans h2⟩
theorem Spans.lies {w : World} {A : Option Addr} {xs : List (Int × Int)} (h : Spans w A xs) : Lies w.heap.size w A xs := h.2
theorem Has.of_heap {w w' : World} {g : Nat} {cs : Array Value} (h : Has w g cs) (e : w'.heap[g]? = w.heap[g]?) : Has w' g cs := by
  obtain ⟨t, h⟩ := h
  exact ⟨t, e.trans h⟩
end Go.Proofs.Ytbijaaglmhoopaa

namespace Go.Proofs.Ytbijaaglmhoopaa
open Go.RowKit
set_option linter.unusedVariables false

/-- The loop's variables: block n holds what is left of the plain spans, block n + 1 what was found; the blocks ks are others'. -/
structure Two (n : Nat) (ks : List Nat) (rest bo : List (Int × Int)) (W : World) (A : Option Addr) (c : Nat) (D : Option Addr) (d : Nat) : Prop where
  left : Has W n #[.slice A rest.length c]
  found : Has W (n + 1) #[.slice D bo.length d]
  row : Row W (n + 2) D d bo
  lies : Lies n W A rest
  cap : rest.length ≤ c
  max : c ≤ 9223372036854775807
  far : ∀ k ∈ ks, n + 2 ≤ k ∧ k < W.heap.size ∧ ∀ a, D = some a → a.block ≠ k

section
variable {n : Nat} {ks : List Nat} {rest bo : List (Int × Int)} {W W' : World} {A : Option Addr} {c : Nat} {D : Option Addr} {d : Nat}
/-- It is kept where the two, the row, and what is below n, are. -/
theorem Two.keep (h : Two n ks rest bo W A c D d) (hs : W.heap.size ≤ W'.heap.size) (hb : Below n W W') (h0 : W'.heap[n]? = W.heap[n]?) (h1 : W'.heap[n + 1]? = W.heap[n + 1]?) (h2 : ∀ g, D = some g → W'.heap[g.block]? = W.heap[g.block]?) : Two n ks rest bo W' A c D d :=
  ⟨h.left.of_heap h0, h.found.of_heap h1, h.row.keep h2, h.lies.below hb, h.cap, h.max, fun k hk => ⟨(h.far k hk).1, by have := (h.far k hk).2.1; omega, (h.far k hk).2.2⟩⟩
theorem Two.alloc (h : Two n ks rest bo W A c D d) (o : Obj) : Two n ks rest bo (W.alloc o) A c D d := by
  have hl := h.left.size
  have hf := h.found.size
  exact h.keep (by simp) ((Below.refl _ _).alloc (by omega) _) (Below.heap_alloc W o _ hl) (Below.heap_alloc W o _ hf) (fun g hg => Below.heap_alloc W o _ (h.row.lt g hg).2)
theorem Two.own (h : Two n ks rest bo W A c D d) (o : Obj) : Two n (W.heap.size :: ks) rest bo (W.alloc o) A c D d := by
  have h' := h.alloc o
  refine ⟨h'.left, h'.found, h'.row, h'.lies, h'.cap, h'.max, fun k hk => ?_⟩
  rcases List.mem_cons.1 hk with rfl | hk
  · have := h.found.size
    exact ⟨by omega, by simp, fun a ha => by have := (h.row.lt a ha).2; omega⟩
  · exact h'.far k hk
theorem Two.set (h : Two n ks rest bo W A c D d) {k : Nat} (hk : k ∈ ks) (i : Nat) (v : Value) : Two n ks rest bo (W.setCell ⟨k, i, none⟩ v) A c D d := by
  obtain ⟨h1, h2, h3⟩ := h.far k hk
  exact h.keep (grownBy_setCell W ⟨k, i, none⟩ v).size ((Below.refl _ _).setCell (p := ⟨k, i, none⟩) (by simp only []; omega) _) (Below.heap_setCell W _ v _ (by simp only []; omega)) (Below.heap_setCell W _ v _ (by simp only []; omega)) (fun g hg => Below.heap_setCell W _ v _ (h3 g hg))
theorem Two.less (h : Two n ks rest bo W A c D d) {ks' : List Nat} (hk : ∀ k ∈ ks', k ∈ ks) : Two n ks' rest bo W A c D d := ⟨h.left, h.found, h.row, h.lies, h.cap, h.max, fun k q => h.far k (hk k q)⟩
theorem Two.put (h : Two n ks rest bo W A c D d) {l : Nat} {o : Obj} (o' : Obj) (hl : n + 2 ≤ l) (ho : W.heap[l]? = some o) (hc : o.isCells = false) : Two n ks rest bo (W.putObj l o') A c D d := by
  refine h.keep (by simp) (below_putObj _ (by omega)) (World.putObj_heap_other (by omega)) (World.putObj_heap_other (by omega)) (fun g hg => World.putObj_heap_other ?_)
  rintro e
  subst hg
  rcases h.row.2 with ⟨hv, _⟩ | ⟨g', cap, cur, hv, _, hh, _⟩
  · cases hv
  · injection hv with e1
    simp only [Option.some.injEq] at e1
    subst e1
    rw [show (⟨g', 0, none⟩ : Addr).block = g' from rfl] at e
    rw [e] at hh
    rw [hh] at ho
    cases ho
    cases hc
end

/-- What was found takes one more. -/
theorem Two.push {n : Nat} {ks : List Nat} {rest bo : List (Int × Int)} {W : World} {A : Option Addr} {c : Nat} {D : Option Addr} {d : Nat} (h : Two n ks rest bo W A c D d) (p q : Int) (hl : bo.length < 1000000000) {s : Nat} (hs : W.heap.size = s) :
    ∃ D' d' w1, (Builtin.append_ #[43, 43] 43 #[.slice D bo.length d, .slice (some ⟨s, 0, none⟩) 1 1]).run Try.prog (W.alloc (.cells #[.int .i64 p, .int .i64 q] 61)) = .ok (.slice D' (bo.length + 1) d') w1 ∧
      Has w1 (n + 1) #[.slice D bo.length d] ∧ Two n ks rest (bo ++ [(p, q)]) (w1.setCell ⟨n + 1, 0, none⟩ (.slice D' (bo.length + 1) d')) A c D' d' ∧ KeepsOthers W (w1.setCell ⟨n + 1, 0, none⟩ (.slice D' (bo.length + 1) d')) ∧
      (∀ k ∈ ks, (w1.setCell ⟨n + 1, 0, none⟩ (.slice D' (bo.length + 1) d')).heap[k]? = W.heap[k]?) ∧ Below n W (w1.setCell ⟨n + 1, 0, none⟩ (.slice D' (bo.length + 1) d')) := by
  have hfs := h.found.size
  obtain ⟨D', d', w1, hr, hrow, hb, hz, hg, ho⟩ := row_push h.row p q hl (by omega) hs
  have hown : ∀ k, (Value.slice D bo.length d).ownBlock = some k → n + 2 ≤ k ∧ k < W.heap.size := fun k hk => World.ownsRow.lt h.row k hk
  have keepB : ∀ k, k < W.heap.size → some k ≠ (Value.slice D bo.length d).ownBlock → w1.heap[k]? = W.heap[k]? := fun k hk hne => (hg.block k (by simp; omega) hne).trans (Below.heap_alloc W _ k hk)
  have ne : ∀ k, k < n + 2 → some k ≠ (Value.slice D bo.length d).ownBlock := fun k hk e => by have := (hown k e.symm).1; omega
  have hF : Has w1 (n + 1) #[.slice D bo.length d] := h.found.of_heap (keepB _ (by omega) (ne _ (by omega)))
  have kfar : ∀ k ∈ ks, some k ≠ (Value.slice D bo.length d).ownBlock := fun k hk e => by
    cases D with
    | none => simp [Value.ownBlock] at e
    | some a => simp only [Value.ownBlock, Option.some.injEq] at e; exact (h.far k hk).2.2 a rfl e.symm
  have hb1 : Below n W w1 := ⟨hg.os, hg.tape, hg.output, by have := hg.size; simp at this; omega, fun k hk => keepB k (by omega) (ne k (by omega))⟩
  have hb2 : Below n W (w1.setCell ⟨n + 1, 0, none⟩ (.slice D' (bo.length + 1) d')) := hb1.setCell (p := ⟨n + 1, 0, none⟩) (by simp only []; omega) _
  have hsz := (grownBy_setCell w1 ⟨n + 1, 0, none⟩ (.slice D' (bo.length + 1) d')).size
  have hks : ∀ k ∈ ks, (w1.setCell ⟨n + 1, 0, none⟩ (.slice D' (bo.length + 1) d')).heap[k]? = W.heap[k]? := fun k hk => by
    have := h.far k hk
    rw [Below.heap_setCell w1 _ _ _ (by simp only []; omega)]
    exact keepB k (by omega) (kfar k hk)
  refine ⟨D', d', w1, hr, hF, ⟨?_, ?_, ?_, h.lies.below hb2, h.cap, h.max, fun k hk => ⟨(h.far k hk).1, ?_, fun a ha e => ?_⟩⟩, ?_, hks, hb2⟩
  · exact (h.left.of_heap (keepB _ (by omega) (ne _ (by omega)))).far (by simp only []; omega) _
  · have := hF.set 0 (.slice D' (bo.length + 1) d')
    rw [List.length_append]
    exact this
  · exact hrow.far (fun g hg' => by have := (hrow.lt g hg').1; simp only []; omega) _
  · have := (h.far k hk).2.1; omega
  · subst ha
    have hk2 := (h.far k hk).2
    rcases ho with ho | ho
    · exact kfar k hk (by rw [← ho]; simp [Value.ownBlock, e])
    · simp only [Value.ownBlock, Option.some.injEq] at ho; omega
  · refine ((KeepsOthers.alloc W _).trans (KeepsOthers.of_grownBy hg fun j o ej hj => ?_)).trans (KeepsOthers.setCell _ _ _)
    rcases (h.row.alloc (.cells #[.int .i64 p, .int .i64 q] 61)).2 with ⟨hv, _⟩ | ⟨g, cap, cur, hv, _, hgb, _⟩
    · rw [hv] at ej; simp [Value.ownBlock] at ej
    · rw [hv] at ej
      simp only [Value.ownBlock, Option.some.injEq] at ej
      rw [← ej, hgb] at hj
      cases hj; rfl

/-- Within a round: the loop's own variable in block B, all else as the round found it. -/
structure Rnd (n : Nat) (W : World) (ks : List Nat) (B : Nat) (x : Int × Int) (rest bo : List (Int × Int)) (wr : World) (A : Option Addr) (c : Nat) (D : Option Addr) (d : Nat) : Prop where
  two : Two n (B :: ks) rest bo wr A c D d
  var : Has wr B #[.int .i64 x.1, .int .i64 x.2]
  ko : KeepsOthers W wr
  own : ∀ k ∈ ks, wr.heap[k]? = W.heap[k]?
  bel : Below n W wr
section
variable {n : Nat} {W : World} {ks : List Nat} {B : Nat} {x : Int × Int} {rest bo : List (Int × Int)} {wr : World} {A : Option Addr} {c : Nat} {D : Option Addr} {d : Nat}
theorem Rnd.alloc (h : Rnd n W ks B x rest bo wr A c D d) (o : Obj) : Rnd n W ks B x rest bo (wr.alloc o) A c D d :=
  ⟨h.two.alloc o, h.var.alloc o, h.ko.trans (KeepsOthers.alloc _ _), fun k hk => (Below.heap_alloc wr o k (h.two.far k (List.mem_cons_of_mem _ hk)).2.1).trans (h.own k hk), h.bel.alloc (Nat.le_of_lt h.two.left.size) o⟩
theorem Two.drew {ks : List Nat} (h : Two n ks rest bo wr A c D d) : Two n ks rest bo wr.drew A c D d := ⟨h.left, h.found, h.row, h.lies, h.cap, h.max, h.far⟩
theorem Rnd.drew (h : Rnd n W ks B x rest bo wr A c D d) : Rnd n W ks B x rest bo wr.drew A c D d := ⟨h.two.drew, h.var, ⟨h.ko.size, h.ko.same⟩, h.own, ⟨h.bel.os, h.bel.tape, h.bel.output, h.bel.size, h.bel.block⟩⟩
theorem Rnd.drewN (h : Rnd n W ks B x rest bo wr A c D d) (m : Nat) : Rnd n W ks B x rest bo (wr.drewN m) A c D d := ⟨⟨h.two.left, h.two.found, h.two.row, h.two.lies, h.two.cap, h.two.max, h.two.far⟩, h.var, ⟨h.ko.size, h.ko.same⟩, h.own, ⟨h.bel.os, h.bel.tape, h.bel.output, h.bel.size, h.bel.block⟩⟩
end
theorem Rnd.push {n : Nat} {W : World} {ks : List Nat} {B : Nat} {x : Int × Int} {rest bo : List (Int × Int)} {wr : World} {A : Option Addr} {c : Nat} {D : Option Addr} {d : Nat} (h : Rnd n W ks B x rest bo wr A c D d) (p q : Int) (hl : bo.length < 1000000000) {s : Nat} (hs : wr.heap.size = s) :
    ∃ D' d' w1, (Builtin.append_ #[43, 43] 43 #[.slice D bo.length d, .slice (some ⟨s, 0, none⟩) 1 1]).run Try.prog (wr.alloc (.cells #[.int .i64 p, .int .i64 q] 61)) = .ok (.slice D' (bo.length + 1) d') w1 ∧
      Has w1 (n + 1) #[.slice D bo.length d] ∧ Rnd n W ks B x rest (bo ++ [(p, q)]) (w1.setCell ⟨n + 1, 0, none⟩ (.slice D' (bo.length + 1) d')) A c D' d' := by
  obtain ⟨D', d', w1, hr, hF, h1, h2, h3, h4⟩ := h.two.push p q hl hs
  exact ⟨D', d', w1, hr, hF, h1, h.var.of_heap (h3 B (by simp)), h.ko.trans h2, fun k hk => (h3 k (List.mem_cons_of_mem _ hk)).trans (h.own k hk), h.bel.trans h4⟩

end Go.Proofs.Ytbijaaglmhoopaa

namespace Go.Proofs.Ytbijaaglmhoopaa
open Go.RowKit
set_option linter.unusedVariables false
set_option maxRecDepth 20000

theorem gives_bel {w w1 w' : World} {xs ys : List (Int × Int)} {e : Ending} (h : Gives w1 xs e w') (hb : Below w.heap.size w w1) (he : xs = ys) : Gives w ys e w' := by
  subst he
  obtain ⟨D, d, rfl, hr, hb2⟩ := h
  exact ⟨D, d, rfl, hr.mono hb.size, bel_on hb hb2⟩

end Go.Proofs.Ytbijaaglmhoopaa

namespace Go.Proofs.Ytbijaaglmhoopaa
open Go.RowKit
set_option linter.unusedVariables false
set_option maxRecDepth 20000
set_option linter.unusedSimpArgs false

theorem same_any (A B : Option Addr) (ca cb : Nat) (xs : List (Int × Int)) (w : World) (ha : Spans w A xs) (hb : Spans w B xs) (hl : xs.length ≤ 100000000) :
    Calls Try.prog 19 #[.slice A xs.length ca, .slice B xs.length cb] w fun e w' => e = .returned (.bool true) ∧ Below w.heap.size w w' := by
  have HA := Lib.hid ha
  have HB := Lib.hid hb
  clear ha hb
  go_enter Try.func19, Try.ntmps19
  go_wp2
  go_loopw [5] (fun i wr => ∃ (k : Nat), k ≤ xs.length ∧ i = .int .i64 k ∧ Below w.heap.size w wr) (fun i _ => xs.length - (intOf i).toNat)
  case atStart => exact ⟨0, Nat.zero_le _, rfl, Below.refl _ _⟩
  case round =>
    obtain ⟨k, hk, rfl, hbw⟩ := hrel
    by_cases hlt : k < xs.length
    · obtain ⟨b, off, rfl, hblt, c1, c2⟩ := (HA.out.below hbw).2 k hlt
      obtain ⟨b', off', rfl, hblt', d1, d2⟩ := (HB.out.below hbw).2 k hlt
      generalize xs.getD k (0, 0) = z at *
      obtain ⟨p, q⟩ := z
      simp only [] at *
      have i0 : (0 : Int) ≤ (k : Int) := by omega
      have i1 : (k : Int) < (xs.length : Int) := by omega
      go_wp2
      go_quiet (fail)
      go_wp2
      go_roundw
      case rel => exact ⟨k + 1, by omega, by go_num, below_drewN hbw _⟩
      case measure => simp [intOf]; omega
    · obtain rfl : k = xs.length := by omega
      go_wp2
      go_ret
      exact ⟨rfl, hbw⟩

end Go.Proofs.Ytbijaaglmhoopaa
