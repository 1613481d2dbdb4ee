/-
  The contract of package span's within: what plain spans have of the parts that a function hands out.
-/
import Derived.Test.YtojhecllgkoclaaSpIter
namespace Go.Proofs.Ytojhecllgkoclaa
open Go.RowKit
set_option linter.unusedVariables false

theorem stepW_len (p : Int × Int) : ∀ l : List (Int × Int), (stepW p l).2.length + (stepW p l).1.length ≤ l.length + 1
  | [] => by simp [stepW]
  | x :: l => by
    have := stepW_len p l
    unfold stepW
    split
    · split
      · split <;> simp <;> omega
      · simp only [List.length_append, List.length_cons]
        split <;> simp <;> omega
    · simp
theorem runW_len (l : List (Int × Int)) : ∀ (n : Nat) (ps : List (Int × Int)), ps.length = n → (runW l ps).2.length + (runW l ps).1.length ≤ l.length + ps.length
  | 0, ps, hn => by
    obtain rfl : ps = [] := List.eq_nil_of_length_eq_zero hn
    simp [runW]
  | n + 1, ps, hn => by
    obtain ⟨pre, x, rfl⟩ : ∃ pre x, ps = pre ++ [x] := ⟨ps.dropLast, ps.getLast (by intro e; simp [e] at hn), (List.dropLast_concat_getLast _).symm⟩
    have h1 := runW_len l n pre (by simpa using hn)
    have h2 := stepW_len x (runW l pre).1
    rw [runW_snoc]
    simp only [List.length_append, List.length_cons, List.length_nil]
    omega

/-- The loop's variables: block n holds what is left of the plain spans, block n + 1 what was found; the blocks ks are others'. -/
structure Two (n : Nat) (ks : List Nat) (rest bo : List (Int × Int)) (W : World) (A : Option Addr) (c : Nat) (D : Option Addr) (d : Nat) : Prop where
  left : Has W n #[.slice A rest.length c]
  found : Has W (n + 1) #[.slice D bo.length d]
  row : Row W (n + 2) D d bo
  lies : Lies n W A rest
  cap : rest.length ≤ c
  max : c ≤ 9223372036854775807
  far : ∀ k ∈ ks, n + 2 ≤ k ∧ k < W.heap.size ∧ ∀ a, D = some a → a.block ≠ k

section
variable {n : Nat} {ks : List Nat} {rest bo : List (Int × Int)} {W W' : World} {A : Option Addr} {c : Nat} {D : Option Addr} {d : Nat}
/-- It is kept where the two, the row, and what is below n, are. -/
theorem Two.keep (h : Two n ks rest bo W A c D d) (hs : W.heap.size ≤ W'.heap.size) (hb : Below n W W') (h0 : W'.heap[n]? = W.heap[n]?) (h1 : W'.heap[n + 1]? = W.heap[n + 1]?) (h2 : ∀ g, D = some g → W'.heap[g.block]? = W.heap[g.block]?) : Two n ks rest bo W' A c D d :=
  ⟨h.left.of_heap h0, h.found.of_heap h1, h.row.keep h2, h.lies.below hb, h.cap, h.max, fun k hk => ⟨(h.far k hk).1, by have := (h.far k hk).2.1; omega, (h.far k hk).2.2⟩⟩
theorem Two.alloc (h : Two n ks rest bo W A c D d) (o : Obj) : Two n ks rest bo (W.alloc o) A c D d := by
  have hl := h.left.size
  have hf := h.found.size
  exact h.keep (by simp) ((Below.refl _ _).alloc (by omega) _) (Below.heap_alloc W o _ hl) (Below.heap_alloc W o _ hf) (fun g hg => Below.heap_alloc W o _ (h.row.lt g hg).2)
theorem Two.own (h : Two n ks rest bo W A c D d) (o : Obj) : Two n (W.heap.size :: ks) rest bo (W.alloc o) A c D d := by
  have h' := h.alloc o
  refine ⟨h'.left, h'.found, h'.row, h'.lies, h'.cap, h'.max, fun k hk => ?_⟩
  rcases List.mem_cons.1 hk with rfl | hk
  · have := h.found.size
    exact ⟨by omega, by simp, fun a ha => by have := (h.row.lt a ha).2; omega⟩
  · exact h'.far k hk
theorem Two.set (h : Two n ks rest bo W A c D d) {k : Nat} (hk : k ∈ ks) (i : Nat) (v : Value) : Two n ks rest bo (W.setCell ⟨k, i, none⟩ v) A c D d := by
  obtain ⟨h1, h2, h3⟩ := h.far k hk
  exact h.keep (grownBy_setCell W ⟨k, i, none⟩ v).size ((Below.refl _ _).setCell (p := ⟨k, i, none⟩) (by simp only []; omega) _) (Below.heap_setCell W _ v _ (by simp only []; omega)) (Below.heap_setCell W _ v _ (by simp only []; omega)) (fun g hg => Below.heap_setCell W _ v _ (h3 g hg))
theorem Two.less (h : Two n ks rest bo W A c D d) {ks' : List Nat} (hk : ∀ k ∈ ks', k ∈ ks) : Two n ks' rest bo W A c D d := ⟨h.left, h.found, h.row, h.lies, h.cap, h.max, fun k q => h.far k (hk k q)⟩
theorem Two.put (h : Two n ks rest bo W A c D d) {l : Nat} {o : Obj} (o' : Obj) (hl : n + 2 ≤ l) (ho : W.heap[l]? = some o) (hc : o.isCells = false) : Two n ks rest bo (W.putObj l o') A c D d := by
  refine h.keep (by simp) (below_putObj _ (by omega)) (World.putObj_heap_other (by omega)) (World.putObj_heap_other (by omega)) (fun g hg => World.putObj_heap_other ?_)
  rintro e
  subst hg
  rcases h.row.2 with ⟨hv, _⟩ | ⟨g', cap, cur, hv, _, hh, _⟩
  · cases hv
  · injection hv with e1
    simp only [Option.some.injEq] at e1
    subst e1
    rw [show (⟨g', 0, none⟩ : Addr).block = g' from rfl] at e
    rw [e] at hh
    rw [hh] at ho
    cases ho
    cases hc
/-- The variable of what is left takes another value. -/
theorem Two.setLeft (h : Two n ks rest bo W A c D d) {rest' : List (Int × Int)} {A' : Option Addr} {c' : Nat} (hl : Lies n W A' rest') (hc : rest'.length ≤ c') (hm : c' ≤ 9223372036854775807) : Two n ks rest' bo (W.setCell ⟨n, 0, none⟩ (.slice A' rest'.length c')) A' c' D d ∧ KeepsOthers W (W.setCell ⟨n, 0, none⟩ (.slice A' rest'.length c')) ∧ (∀ k ∈ ks, (W.setCell ⟨n, 0, none⟩ (.slice A' rest'.length c')).heap[k]? = W.heap[k]?) ∧ Below n W (W.setCell ⟨n, 0, none⟩ (.slice A' rest'.length c')) := by
  have hb : Below n W (W.setCell ⟨n, 0, none⟩ (.slice A' rest'.length c')) := (Below.refl _ _).setCell (p := ⟨n, 0, none⟩) (Nat.le_refl _) _
  refine ⟨⟨h.left.set 0 _, h.found.far (by simp only []; omega) _, h.row.far (fun g hg => by have := (h.row.lt g hg).1; simp only []; omega) _, hl.below hb, hc, hm, fun k hk => ⟨(h.far k hk).1, by have := (h.far k hk).2.1; have := (grownBy_setCell W ⟨n, 0, none⟩ (.slice A' rest'.length c')).size; omega, (h.far k hk).2.2⟩⟩, KeepsOthers.setCell _ _ _, fun k hk => Below.heap_setCell W _ _ _ (by have := (h.far k hk).1; simp only []; omega), hb⟩
end

/-- What was found takes one more. -/
theorem Two.push {n : Nat} {ks : List Nat} {rest bo : List (Int × Int)} {W : World} {A : Option Addr} {c : Nat} {D : Option Addr} {d : Nat} (h : Two n ks rest bo W A c D d) (p q : Int) (hl : bo.length < 1000000000) {s : Nat} (hs : W.heap.size = s) :
    ∃ D' d' w1, (Builtin.append_ #[31, 31] 31 #[.slice D bo.length d, .slice (some ⟨s, 0, none⟩) 1 1]).run Try.prog (W.alloc (.cells #[.int .i64 p, .int .i64 q] 47)) = .ok (.slice D' (bo.length + 1) d') w1 ∧
      Has w1 (n + 1) #[.slice D bo.length d] ∧ Two n ks rest (bo ++ [(p, q)]) (w1.setCell ⟨n + 1, 0, none⟩ (.slice D' (bo.length + 1) d')) A c D' d' ∧ KeepsOthers W (w1.setCell ⟨n + 1, 0, none⟩ (.slice D' (bo.length + 1) d')) ∧
      (∀ k ∈ ks, (w1.setCell ⟨n + 1, 0, none⟩ (.slice D' (bo.length + 1) d')).heap[k]? = W.heap[k]?) ∧ Below n W (w1.setCell ⟨n + 1, 0, none⟩ (.slice D' (bo.length + 1) d')) := by
  have hfs := h.found.size
  obtain ⟨D', d', w1, hr, hrow, hb, hz, hg, ho⟩ := row_push h.row p q hl (by omega) hs
  have hown : ∀ k, (Value.slice D bo.length d).ownBlock = some k → n + 2 ≤ k ∧ k < W.heap.size := fun k hk => World.ownsRow.lt h.row k hk
  have keepB : ∀ k, k < W.heap.size → some k ≠ (Value.slice D bo.length d).ownBlock → w1.heap[k]? = W.heap[k]? := fun k hk hne => (hg.block k (by simp; omega) hne).trans (Below.heap_alloc W _ k hk)
  have ne : ∀ k, k < n + 2 → some k ≠ (Value.slice D bo.length d).ownBlock := fun k hk e => by have := (hown k e.symm).1; omega
  have hF : Has w1 (n + 1) #[.slice D bo.length d] := h.found.of_heap (keepB _ (by omega) (ne _ (by omega)))
  have kfar : ∀ k ∈ ks, some k ≠ (Value.slice D bo.length d).ownBlock := fun k hk e => by
    cases D with
    | none => simp [Value.ownBlock] at e
    | some a => simp only [Value.ownBlock, Option.some.injEq] at e; exact (h.far k hk).2.2 a rfl e.symm
  have hb1 : Below n W w1 := ⟨hg.os, hg.tape, hg.output, by have := hg.size; simp at this; omega, fun k hk => keepB k (by omega) (ne k (by omega))⟩
  have hb2 : Below n W (w1.setCell ⟨n + 1, 0, none⟩ (.slice D' (bo.length + 1) d')) := hb1.setCell (p := ⟨n + 1, 0, none⟩) (by simp only []; omega) _
  have hsz := (grownBy_setCell w1 ⟨n + 1, 0, none⟩ (.slice D' (bo.length + 1) d')).size
  have hks : ∀ k ∈ ks, (w1.setCell ⟨n + 1, 0, none⟩ (.slice D' (bo.length + 1) d')).heap[k]? = W.heap[k]? := fun k hk => by
    have := h.far k hk
    rw [Below.heap_setCell w1 _ _ _ (by simp only []; omega)]
    exact keepB k (by omega) (kfar k hk)
  refine ⟨D', d', w1, hr, hF, ⟨?_, ?_, ?_, h.lies.below hb2, h.cap, h.max, fun k hk => ⟨(h.far k hk).1, ?_, fun a ha e => ?_⟩⟩, ?_, hks, hb2⟩
  · exact (h.left.of_heap (keepB _ (by omega) (ne _ (by omega)))).far (by simp only []; omega) _
  · have := hF.set 0 (.slice D' (bo.length + 1) d')
    rw [List.length_append]
    exact this
  · exact hrow.far (fun g hg' => by have := (hrow.lt g hg').1; simp only []; omega) _
  · have := (h.far k hk).2.1; omega
  · subst ha
    have hk2 := (h.far k hk).2
    rcases ho with ho | ho
    · exact kfar k hk (by rw [← ho]; simp [Value.ownBlock, e])
    · simp only [Value.ownBlock, Option.some.injEq] at ho; omega
  · refine ((KeepsOthers.alloc W _).trans (KeepsOthers.of_grownBy hg fun j o ej hj => ?_)).trans (KeepsOthers.setCell _ _ _)
    rcases (h.row.alloc (.cells #[.int .i64 p, .int .i64 q] 47)).2 with ⟨hv, _⟩ | ⟨g, cap, cur, hv, _, hgb, _⟩
    · rw [hv] at ej; simp [Value.ownBlock] at ej
    · rw [hv] at ej
      simp only [Value.ownBlock, Option.some.injEq] at ej
      rw [← ej, hgb] at hj
      cases hj; rfl

/-- Within a round: the loop's own variable in block B, all else as the round found it. -/
structure Rnd (n : Nat) (W : World) (ks : List Nat) (B : Nat) (x : Int × Int) (rest bo : List (Int × Int)) (wr : World) (A : Option Addr) (c : Nat) (D : Option Addr) (d : Nat) : Prop where
  two : Two n (B :: ks) rest bo wr A c D d
  var : Has wr B #[.int .i64 x.1, .int .i64 x.2]
  ko : KeepsOthers W wr
  own : ∀ k ∈ ks, wr.heap[k]? = W.heap[k]?
  bel : Below n W wr
section
variable {n : Nat} {W : World} {ks : List Nat} {B : Nat} {x : Int × Int} {rest bo : List (Int × Int)} {wr : World} {A : Option Addr} {c : Nat} {D : Option Addr} {d : Nat}
theorem Rnd.alloc (h : Rnd n W ks B x rest bo wr A c D d) (o : Obj) : Rnd n W ks B x rest bo (wr.alloc o) A c D d :=
  ⟨h.two.alloc o, h.var.alloc o, h.ko.trans (KeepsOthers.alloc _ _), fun k hk => (Below.heap_alloc wr o k (h.two.far k (List.mem_cons_of_mem _ hk)).2.1).trans (h.own k hk), h.bel.alloc (Nat.le_of_lt h.two.left.size) o⟩
theorem Two.drew {ks : List Nat} (h : Two n ks rest bo wr A c D d) : Two n ks rest bo wr.drew A c D d := ⟨h.left, h.found, h.row, h.lies, h.cap, h.max, h.far⟩
theorem Rnd.drew (h : Rnd n W ks B x rest bo wr A c D d) : Rnd n W ks B x rest bo wr.drew A c D d := ⟨h.two.drew, h.var, ⟨h.ko.size, h.ko.same⟩, h.own, ⟨h.bel.os, h.bel.tape, h.bel.output, h.bel.size, h.bel.block⟩⟩
theorem Rnd.drewN (h : Rnd n W ks B x rest bo wr A c D d) (m : Nat) : Rnd n W ks B x rest bo (wr.drewN m) A c D d := ⟨⟨h.two.left, h.two.found, h.two.row, h.two.lies, h.two.cap, h.two.max, h.two.far⟩, h.var, ⟨h.ko.size, h.ko.same⟩, h.own, ⟨h.bel.os, h.bel.tape, h.bel.output, h.bel.size, h.bel.block⟩⟩
theorem Rnd.setLeft (h : Rnd n W ks B x rest bo wr A c D d) {rest' : List (Int × Int)} {A' : Option Addr} {c' : Nat} (hl : Lies n wr A' rest') (hc : rest'.length ≤ c') (hm : c' ≤ 9223372036854775807) : Rnd n W ks B x rest' bo (wr.setCell ⟨n, 0, none⟩ (.slice A' rest'.length c')) A' c' D d := by
  obtain ⟨h1, h2, h3, h4⟩ := h.two.setLeft hl hc hm
  exact ⟨h1, h.var.of_heap (h3 B (by simp)), h.ko.trans h2, fun k hk => (h3 k (List.mem_cons_of_mem _ hk)).trans (h.own k hk), h.bel.trans h4⟩
end
theorem Rnd.push {n : Nat} {W : World} {ks : List Nat} {B : Nat} {x : Int × Int} {rest bo : List (Int × Int)} {wr : World} {A : Option Addr} {c : Nat} {D : Option Addr} {d : Nat} (h : Rnd n W ks B x rest bo wr A c D d) (p q : Int) (hl : bo.length < 1000000000) {s : Nat} (hs : wr.heap.size = s) :
    ∃ D' d' w1, (Builtin.append_ #[31, 31] 31 #[.slice D bo.length d, .slice (some ⟨s, 0, none⟩) 1 1]).run Try.prog (wr.alloc (.cells #[.int .i64 p, .int .i64 q] 47)) = .ok (.slice D' (bo.length + 1) d') w1 ∧
      Has w1 (n + 1) #[.slice D bo.length d] ∧ Rnd n W ks B x rest (bo ++ [(p, q)]) (w1.setCell ⟨n + 1, 0, none⟩ (.slice D' (bo.length + 1) d')) A c D' d' := by
  obtain ⟨D', d', w1, hr, hF, h1, h2, h3, h4⟩ := h.two.push p q hl hs
  exact ⟨D', d', w1, hr, hF, h1, h.var.of_heap (h3 B (by simp)), h.ko.trans h2, fun k hk => (h3 k (List.mem_cons_of_mem _ hk)).trans (h.own k hk), h.bel.trans h4⟩

/-- In a fenced walk: an append whose run is known. -/
theorem wpListIn_append_run {F : Fence} {n : Nat} {P : Program} {ops : Array Oper} {rest : List Oper} {o : Oper} {a : Act} {w w' : World} {Q : Exit → Act → World → Prop} {s x : Operand} {t : TypeId} {v u v' : Value}
    (hr : (Builtin.append_ #[t, t] o.type #[v, u]).run P w = .ok v' w') (hgd : o.guard = none)
    (ho : o.op = .call { callee := .builtin .append, args := #[s, x], argTypes := #[t, t] }) (hs : a.eval s = v) (hx : a.eval x = u)
    (h : wpListIn F n P ops Q rest (a.put o.dst v') w') : wpListIn F n P ops Q (o :: rest) a w := by
  refine wpListIn_plain hgd fun K hK => ⟨?_, ?_⟩
  · simp [Oper.about, ho, resolve, Target.leads, Sem.run_pure]
  · rw [Oper.semAt_plain F _ _ (by rw [ho]; intro c hc; cases hc)]
    simp [execOp, ho, resolve, invoke, builtin, hs, hx, hr, Result.andThen]
    exact hK _ _ h
end Go.Proofs.Ytojhecllgkoclaa
