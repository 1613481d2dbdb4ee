/-
  Rows of events of the call's own (append), slices of events cut; where an event is put in.
  event.Sort, with the answer's capacity.
  Slices of parts, and of flags, in memory: read, of the call's own, appended to, two at a time.
-/
import Derived.Test.YtpgncbhahocmbaaGreatQai
import Derived.Test.YtpgncbhahocmbaaGreatQao
import Derived.Test.YtpgncbhahocmbaaGreatQaf
import Derived.Test.YtpgncbhahocmbaaGreatQad
namespace Go.Proofs.YtpgncbhahocmbaaGreat
open Go.RowKit Go.Sort
set_option linter.unusedVariables false
set_option linter.unusedSimpArgs false
set_option maxRecDepth 20000

theorem sortE_length (l : List EvP) : (sortE l).length = l.length := (ev_sort_perm l).length_eq
/-! ### Slices cut -/
/-! ### Rows -/
abbrev ERow (w : World) (base : Nat) (A : Option Addr) (n c : Nat) (l : List EvP) : Prop := TRow 43 11 w base A n c (l.map evLs)
theorem ERow.evs {w : World} {base : Nat} {A : Option Addr} {n c : Nat} {l : List EvP} (h : ERow w base A n c l) (hn : l.length = n) : Evs w A n c l := ⟨Sl.of_own h, hn⟩
theorem erow_mono {w : World} {base b : Nat} {A : Option Addr} {n c : Nat} {l : List EvP} (h : ERow w base A n c l) (hb : b ≤ base) : ERow w b A n c l := by
  obtain ⟨hl, hn | ⟨g, cap, cur, hv, hg, rest⟩⟩ := h
  · exact ⟨hl, .inl hn⟩
  · exact ⟨hl, .inr ⟨g, cap, cur, hv, by omega, rest⟩⟩
theorem erow_empty (w : World) : ERow (w.alloc (.cells #[] 43)) w.heap.size (some ⟨w.heap.size, 0, none⟩) 0 0 [] := own_new w 43 11 0 #[] rfl (by decide)
/-- One event, laid for an append. -/
theorem evs_one (w : World) (x : EvP) : Evs (w.alloc (.cells (evC x) 43)) (some ⟨w.heap.size, 0, none⟩) 1 1 [x] := by
  have := own_new w 43 11 1 (evC x) rfl (by decide)
  refine ⟨?_, rfl⟩
  have h := Sl.of_own this
  have e : (evC x).toList = ints .i64 ([x].map evLs).flatten := rfl
  rw [← e]
  exact h
/-- An append of what a slice of events holds. -/
theorem erow_append {w : World} {base c : Nat} {A : Option Addr} {n : Nat} {l : List EvP} (h : ERow w base A n c l) {B : Option Addr} {m d : Nat} {l' : List EvP} (hs : Evs w B m d l') (hm : n + m ≤ 100000) (hbase : base ≤ w.heap.size) {k : Nat} (hk : n + m = k) :
    ∃ A' c' w', (Builtin.append_ #[31, 31] 31 #[.slice A n c, .slice B m d]).run Tryz.prog w = .ok (.slice A' k c') w' ∧ ERow w' base A' k c' (l ++ l') ∧
      (∀ a : World, a.heap.size ≤ base → Below a.heap.size a w → Below a.heap.size a w') ∧ (∀ b, b < w.heap.size → (∀ g, A = some g → b ≠ g.block) → w'.heap[b]? = w.heap[b]?) := by
  subst hk
  obtain ⟨A', c', w', hr, ho, hg, hl⟩ := append_any (P := Tryz.prog) w base 31 31 43 _ 11 88 Tryz.underlying31 ev_info rfl (by omega) h hs.1 (ints_one .i64 _) (n + m) rfl (ints .i64 ((l ++ l').map evLs).flatten) (by simp [ints]) (by omega) (by omega) hbase
  refine ⟨A', c', w', hr, ho, fun a ha hb => bel_grown hb h ha hg, fun b hb hne => ?_⟩
  obtain ⟨_, _, _, _, q⟩ := hg
  refine q b hb (fun e => ?_)
  rcases h.2 with ⟨hv, _⟩ | ⟨g, cap, cur, hv, _⟩
  · injection hv with e1 e2 e3
    subst e1
    simp [Value.ownBlock] at e
  · injection hv with e1 e2 e3
    subst e1
    have e' : some g = some b := e.symm
    injection e' with e'
    exact hne _ rfl e'.symm
theorem wp_append_run8 {P : Program} {o : Oper} {a : Act} {w w' : World} {K : Act → World → Prop} {Q : Exit → Act → World → Prop} {s x : Operand} {t : TypeId} {v u v' : Value}
    (hr : (Builtin.append_ #[t, t] o.type #[v, u]).run P w = .ok v' w')
    (ho : o.op = .call { callee := .builtin .append, args := #[s, x], argTypes := #[t, t] }) (hs : a.eval s = v) (hx : a.eval x = u)
    (h : K (a.put o.dst v') w') : o.wp P a w K Q := by
  unfold Oper.wp execOp
  simp only [ho, resolve, invoke, builtin, Sem.run_bind, Sem.run_pure, Result.andThen_ok, List.map_toArray, List.map_cons, List.map_nil, hs, hx, hr]
  exact h
theorem wp_build_e {o : Oper} {a : Act} {w : World} {K : Act → World → Prop} {Q : Exit → Act → World → Prop} {y : Operand} (x : EvP)
    (ho : o.op = .buildSlice 31 1 #[(0, y)]) (hy : a.eval y = .agg (evC x)) (h : K (a.put o.dst (.slice (some ⟨w.heap.size, 0, none⟩) 1 1)) (w.alloc (.cells (evC x) 43))) : o.wp Tryz.prog a w K Q := by
  obtain ⟨a1, a2, a3', a4, a5, a6, a7, a8, a9, a10, a11⟩ := x
  simp only [evC] at hy h
  unfold Oper.wp execOp
  simp only [ho, List.map_toArray, List.map_cons, List.map_nil, hy]
  go_simp
  exact h
theorem erow_caps {w : World} {base : Nat} {A : Option Addr} {n c : Nat} {l : List EvP} (h : ERow w base A n c l) : n ≤ c ∧ c ≤ 9223372036854775807 := by
  obtain ⟨hl, ⟨hv, hz⟩ | ⟨g, cap, cur, hv, hb, hh, hc, hm, _⟩⟩ := h
  · injection hv with e1 e2 e3
    omega
  · injection hv with e1 e2 e3
    simp only [maxLen] at hm
    omega
theorem Evs.keep {w w' : World} {A : Option Addr} {n c : Nat} {l : List EvP} (h : Evs w A n c l) (hk : ∀ g, A = some g → w'.heap[g.block]? = w.heap[g.block]?) : Evs w' A n c l := by
  obtain ⟨⟨hl, h0 | ⟨ad, rfl, hc⟩⟩, hn⟩ := h
  · exact ⟨⟨hl, .inl h0⟩, hn⟩
  · refine ⟨⟨hl, .inr ⟨ad, rfl, fun j u hu => ?_⟩⟩, hn⟩
    rw [← hc j u hu]
    have e := hk _ rfl
    unfold World.cell?
    rw [show (ad.add j).block = ad.block by unfold Addr.add; split <;> rfl, e]
end Go.Proofs.YtpgncbhahocmbaaGreat

namespace Go.Proofs.YtpgncbhahocmbaaGreat
open Go.RowKit Go.Sort
set_option linter.unusedVariables false
set_option linter.unusedSimpArgs false
set_option maxRecDepth 20000

/-- 'slices.Clone' of events. -/
theorem evclone_caps (A : Option Addr) (n c : Nat) (l : List EvP) (W : World) (h : Evs W A n c l) (hm : n ≤ 1000000) :
    Calls Tryz.prog 107 #[.slice A n c] W fun e w' => ∃ A' c', e = .returned (.slice A' n c') ∧ Below W.heap.size W w' ∧ (0 < n → ∃ g, A' = some ⟨g, 0, none⟩ ∧ W.heap.size ≤ g ∧ g < w'.heap.size ∧ HoldE w' g l.toArray) ∧ (l = [] → Evs w' A' n c' []) ∧ n ≤ c' ∧ c' ≤ 9223372036854775807 := by
  have qT : ∀ (w : World) (a : Option Addr) (n c n' c' : Nat), (binOp .eql 31 (.slice a n c) (.slice none n' c')).run Tryz.prog w = .ok (.bool a.isNone) w := fun w a n c n' c' => Lib.run_eql_slice_nil w _ _ a n c n' c' Tryz.underlying31
  cases A with
  | none =>
    have hn0 : n = 0 := by
      rcases Nat.eq_zero_or_pos n with h0 | h0
      · exact h0
      · obtain ⟨b, off, e⟩ := h.form h0; cases e
    subst hn0
    go_enter Tryz.func107, Tryz.ntmps107
    go_wp2
    go_ret
    exact ⟨none, 0, rfl, Below.refl _ _, fun h => absurd h (by omega), fun _ => ⟨⟨by simp [ints], .inl ⟨rfl, rfl, rfl⟩⟩, rfl⟩, by omega, by omega⟩
  | some ad =>
    obtain ⟨hsl, hln⟩ := h
    have ho := own_new W 43 11 0 #[] rfl (by decide)
    obtain ⟨A', c', w', hr, hown, hg, hl⟩ := append_any (P := Tryz.prog) (W.alloc (.cells #[] 43)) W.heap.size 31 31 43 _ 11 88 Tryz.underlying31 ev_info rfl (by omega) ho (hsl.alloc _) (ints_one .i64 _) n (by omega) (ints .i64 (l.map evLs).flatten) (by simp) (by omega) (by omega) (by simp)
    have HR := Lib.hid hr
    have hb : Below W.heap.size W w' := bel_grown (bel_alloc (Below.refl _ _) _) ho (Nat.le_refl _) hg
    have hown0 := hown
    have hcaps := erow_caps (l := l) (n := n) (base := W.heap.size) (w := w') (A := A') (c := c') hown
    have hfin : 0 < n → ∃ g, A' = some ⟨g, 0, none⟩ ∧ W.heap.size ≤ g ∧ g < w'.heap.size ∧ HoldE w' g l.toArray := by
      intro h0
      have hlt := World.ownsRow.lt hown
      have hown' := hown
      obtain ⟨hl', ⟨hv, hz⟩ | ⟨g, cap, cur, hv, hbg, hh, _⟩⟩ := hown
      · omega
      · injection hv with e1 e2 e3
        subst e1
        have := hlt _ rfl
        refine ⟨g, rfl, hbg, this.2, holdE_cell (fun t ht => ?_) (fun t => World.ownsRow.frozenAt hown' t)⟩
        rw [hln] at ht
        exact World.ownsRow.cellAt hown' t ht
    have hfin2 : l = [] → Evs w' A' n c' [] := by
      rintro rfl
      have hs := Sl.of_own hown0
      exact ⟨by simpa using hs, hln⟩
    have HF := Lib.hid hfin
    have HCP := Lib.hid hcaps
    have HF2 := Lib.hid hfin2
    clear hr hown hown0 hg hl ho hsl hfin hfin2 hcaps
    go_enter Tryz.func107, Tryz.ntmps107
    go_wp2_with (at_builtin; refine wpList_append_run HR.out rfl rfl rfl rfl ?_)
    go_ret
    exact ⟨A', c', rfl, hb, HF.out, HF2.out, HCP.out⟩
theorem sort_caps_of (A : Option Addr) (n c : Nat) (l : List EvP) (W : World) (h : Evs W A n c l) (hm : n ≤ 1000000)
    (H : ∀ (g c' : Nat) (w : World), 0 < n → HoldE w g l.toArray → g < w.heap.size → Calls Tryz.prog 139 #[.slice (some ⟨g, 0, none⟩) n c', .int .i64 n, cmpV] w fun e w' => e = .returned (.tuple #[]) ∧ ∃ d' : Array EvP, HoldE w' g d' ∧ w.grownBy w' (some g) ∧ d'.toList = sortE l) :
    Calls Tryz.prog 66 #[.slice A n c] W fun e w' => ∃ A' c', e = .returned (.slice A' n c') ∧ Below W.heap.size W w' ∧ Evs w' A' n c' (sortE l) ∧ n ≤ c' ∧ c' ≤ 9223372036854775807 := by
  have HC := Lib.hid (evclone_caps A n c l W h hm)
  have hln := h.2
  have HLN := Lib.hid hln
  have HH := Lib.hid H
  clear h hln H
  go_enter Tryz.func66, Tryz.ntmps66
  go_wp2_with fail
  refine HC.out.mono ?_
  rintro e w1 ⟨A', c', rfl, hb1, hg1, hz1, hcp⟩
  have HCP := Lib.hid hcp
  clear hcp
  have hS : Calls Tryz.prog 108 #[.slice A' n c', cmpV] w1 fun e w' => e = .returned (.tuple #[]) ∧ (Below W.heap.size W w' ∧ Evs w' A' n c' (sortE l)) := by
    rcases Nat.eq_zero_or_pos n with h0 | h0
    · subst h0
      refine sortstable_of A' 0 c' w1 hm _ (stable_few A' 0 c' w1 (by omega) _ ((ins_none_e A' c' cmpV w1).mono ?_))
      rintro e w2 ⟨rfl, rfl⟩
      have hl0 : l = [] := List.length_eq_zero_iff.1 HLN.out
      subst hl0
      exact ⟨rfl, hb1, hz1 (by simp)⟩
    · obtain ⟨g, rfl, hWg, hgl, hH⟩ := hg1 h0
      refine sortstable_of _ n c' w1 hm _ ((HH.out g c' w1 h0 hH hgl).mono ?_)
      rintro e w2 ⟨rfl, d', hd, hgr, hdl⟩
      refine ⟨rfl, hb1.grown hgr hb1.size (fun k hk => by injection hk with hk; omega), ?_⟩
      have := evs_of_holdE (c := c') hd
      have hz : d'.size = n := by
        have e1 := congrArg List.length hdl
        rw [(ev_sort_perm l).length_eq, HLN.out] at e1
        simpa using e1
      rw [hz, hdl] at this
      exact this
  have HS := Lib.hid hS
  clear hS hg1 hb1 HC HH
  generalize hcv : cmpV = cv at HS
  unfold cmpV at hcv
  subst hcv
  go_wp2_with fail
  refine HS.out.mono ?_
  rintro e w2 ⟨rfl, hF⟩
  go_wp2
  go_ret
  exact ⟨A', c', rfl, hF.1, hF.2, HCP.out⟩
theorem sort_caps_few (A : Option Addr) (n c : Nat) (l : List EvP) (W : World) (h : Evs W A n c l) (h20 : n < 20) :
    Calls Tryz.prog 66 #[.slice A n c] W fun e w' => ∃ A' c', e = .returned (.slice A' n c') ∧ Below W.heap.size W w' ∧ Evs w' A' n c' (sortE l) ∧ n ≤ c' ∧ c' ≤ 9223372036854775807 := by
  refine sort_caps_of A n c l W h (by omega) (fun g c' w h0 hH hgl => stable_few _ n c' w h20 _ ?_)
  have hz : l.toArray.size = n := by simpa using h.2
  refine (ins_any g c' 0 n n l.toArray w hH hgl hz (by omega) (Nat.le_refl _) (by omega)).mono ?_
  rintro e w' ⟨rfl, h1, h2⟩
  have hm := ins_mrg l.toArray 0 n (by omega) (by omega)
  have hz2 : (insertionSort lessE l.toArray 0 n).size = n := by rw [hm.1.1, hz]
  refine ⟨rfl, _, h1, h2, ?_⟩
  have := sorted_is (d := l.toArray) (d' := insertionSort lessE l.toArray 0 n) (by rw [hz2]; exact hm.2.1) hm.2.2
  simpa using this
/-- event.Sort. -/
theorem esort_caps (A : Option Addr) (n c : Nat) (l : List EvP) (W : World) (h : Evs W A n c l) (hm : n ≤ 1000000) :
    Calls Tryz.prog 66 #[.slice A n c] W fun e w' => ∃ A' c', e = .returned (.slice A' n c') ∧ Below W.heap.size W w' ∧ Evs w' A' n c' (sortE l) ∧ n ≤ c' ∧ c' ≤ 9223372036854775807 := by
  by_cases h20 : n < 20
  · exact sort_caps_few A n c l W h h20
  · have hln := h.2
    exact sort_caps_of A n c l W h hm (fun g c' w h0 hH hgl => stable_any g c' n l.toArray l w hH hgl (by simpa using hln) hm (by simp) (by omega))
end Go.Proofs.YtpgncbhahocmbaaGreat

namespace Go.Proofs.YtpgncbhahocmbaaGreat
open Go.RowKit
set_option linter.unusedVariables false
set_option linter.unusedSimpArgs false
set_option maxRecDepth 20000

theorem seg_info : (Tryz.prog.info? 54).map (fun i => (i.zero, i.size, i.bytes)) = some (some (.agg #[.int .i64 0, .int .i64 0, .int .i64 0, .int .i64 0, .int .i64 0]), 5, 40) := by kernel_rfl
theorem flag_info : (Tryz.prog.info? 145).map (fun i => (i.zero, i.size, i.bytes)) = some (some (.agg #[.int .i64 0, .int .i64 0]), 2, 16) := by kernel_rfl
abbrev SRow (w : World) (base : Nat) (A : Option Addr) (n c : Nat) (l : List SegP) : Prop := TRow 54 5 w base A n c (l.map segL)
abbrev FRow (w : World) (base : Nat) (A : Option Addr) (n c : Nat) (l : List FlagP) : Prop := TRow 145 2 w base A n c (l.map flagL)
theorem trow_mono {e : TypeId} {k : Nat} {w : World} {base b n c : Nat} {A : Option Addr} {rows : Rows2} (h : TRow e k w base A n c rows) (hb : b ≤ base) : TRow e k w b A n c rows := by
  obtain ⟨hl, hn | ⟨g, cap, cur, hv, hg, rest⟩⟩ := h
  · exact ⟨hl, .inl hn⟩
  · exact ⟨hl, .inr ⟨g, cap, cur, hv, by omega, rest⟩⟩
/-- An append of what a slice of structs holds. -/
theorem trow_append {t e : TypeId} {k by_ : Nat} {z : Value} (ht : Tryz.prog.underlying t = some (.slice e)) (hinfo : (Tryz.prog.info? e).map (fun i => (i.zero, i.size, i.bytes)) = some (some z, k, by_)) (hz : z.cells.size = k) (hk : 0 < k) (hby : by_ ≤ 200)
    {w : World} {base n c : Nat} {A : Option Addr} {rows : Rows2} (h : TRow e k w base A n c rows) {B : Option Addr} {m d : Nat} {rows' : Rows2} (hs : Sl k w B m d (ints .i64 rows'.flatten)) (hm : n + m ≤ 100000) (hbase : base ≤ w.heap.size) {q : Nat} (hq : n + m = q) :
    ∃ A' c' w', (Builtin.append_ #[t, t] t #[.slice A n c, .slice B m d]).run Tryz.prog w = .ok (.slice A' q c') w' ∧ TRow e k w' base A' q c' (rows ++ rows') ∧ Kept (fun b => b < base) w w' ∧
      (∀ b, b < w.heap.size → (∀ g, A = some g → g.block ≠ b) → w'.heap[b]? = w.heap[b]?) ∧ (∀ g', A' = some g' → (∃ g, A = some g ∧ g'.block = g.block) ∨ w.heap.size ≤ g'.block) := by
  subst hq
  have hb : (n + m) * by_ ≤ 100000 * 200 := Nat.mul_le_mul hm hby
  obtain ⟨A', c', w', hr, ho, hg, hl⟩ := append_any (P := Tryz.prog) w base t t e z k by_ ht hinfo hz hk h hs (ints_one .i64 _) (n + m) rfl (ints .i64 (rows ++ rows').flatten) (by simp [ints]) (by omega) (by omega) hbase
  have hkeep : ∀ b, b < w.heap.size → (∀ g, A = some g → g.block ≠ b) → w'.heap[b]? = w.heap[b]? := fun b hb hne => by
    refine hg.block b hb ?_
    cases A with
    | none => simp [Value.ownBlock]
    | some g0 =>
      have := hne g0 rfl
      simp only [Value.ownBlock]
      intro q
      simp at q
      omega
  refine ⟨A', c', w', hr, ho, ⟨hg.os, hg.tape, hg.output, hg.size, fun b hb => hkeep b (by omega) fun g e => ?_⟩, hkeep, fun g' e => ?_⟩
  · have := (h.lt g e).1
    omega
  · subst e
    rcases hl with e | e
    · cases A with
      | none => simp [Value.ownBlock] at e
      | some a0 => simp [Value.ownBlock] at e; exact .inl ⟨a0, rfl, e⟩
    · simp [Value.ownBlock] at e; exact .inr (by omega)
/-- One more, laid for it. -/
theorem trow_one {t e : TypeId} {k by_ : Nat} {z : Value} (ht : Tryz.prog.underlying t = some (.slice e)) (hinfo : (Tryz.prog.info? e).map (fun i => (i.zero, i.size, i.bytes)) = some (some z, k, by_)) (hz : z.cells.size = k) (hk : 0 < k) (hby : by_ ≤ 200)
    {w : World} {base n c : Nat} {A : Option Addr} {rows : Rows2} (h : TRow e k w base A n c rows) (r : List Int) (hr : r.length = k) (hm : n ≤ 1000) (hbase : base ≤ w.heap.size) {s : Nat} (hs : w.heap.size = s) :
    ∃ A' c' w', (Builtin.append_ #[t, t] t #[.slice A n c, .slice (some ⟨s, 0, none⟩) 1 1]).run Tryz.prog (w.alloc (.cells (ints .i64 r).toArray e)) = .ok (.slice A' (n + 1) c') w' ∧ TRow e k w' base A' (n + 1) c' (rows ++ [r]) ∧ Kept (fun b => b < base) w w' ∧
      (∀ b, b < w.heap.size → (∀ g, A = some g → g.block ≠ b) → w'.heap[b]? = w.heap[b]?) ∧ (∀ g', A' = some g' → (∃ g, A = some g ∧ g'.block = g.block) ∨ w.heap.size ≤ g'.block) := by
  subst hs
  have hs' : Sl k (w.alloc (.cells (ints .i64 r).toArray e)) (some ⟨w.heap.size, 0, none⟩) 1 1 (ints .i64 [r].flatten) := by
    have := own_new w e k 1 (ints .i64 r).toArray (by simp [ints, hr]) (by simp only [maxLen]; omega)
    have h2 := Sl.of_own this
    simpa using h2
  obtain ⟨A', c', w', h1, h2, h3, h4, h5⟩ := trow_append ht hinfo hz hk hby (h.alloc (.cells (ints .i64 r).toArray e)) hs' (by omega) (by simp; omega) rfl
  refine ⟨A', c', w', h1, h2, ⟨h3.os, h3.tape, h3.output, ?_, fun b hb => ?_⟩, fun b hb hne => ?_, fun g' e' => ?_⟩
  · have := h3.size; simp at this; omega
  · rw [h3.block b hb]; exact Below.heap_alloc w _ b (by omega)
  · rw [h4 b (by simp; omega) hne]; exact Below.heap_alloc w _ b hb
  · rcases h5 g' e' with q | q
    · exact .inl q
    · exact .inr (by simp at q; omega)
/-- The parts, and the flags, that a call has told till now. -/
structure STwo (w0 w : World) (A : Option Addr) (n c : Nat) (l : List SegP) (B : Option Addr) (m d : Nat) (f : List FlagP) : Prop where
  a : SRow w w0.heap.size A n c l
  b : FRow w w0.heap.size B m d f
  ne : ∀ g e, A = some g → B = some e → g.block ≠ e.block
  bel : Below w0.heap.size w0 w
section
variable {w0 w w' : World} {A B : Option Addr} {n c m d : Nat} {l : List SegP} {f : List FlagP}
theorem STwo.start (w0 : World) : STwo w0 w0 none 0 0 [] none 0 0 [] := ⟨TRow.nil _ _, TRow.nil _ _, (fun g e h _ => by cases h), Below.refl _ _⟩
theorem STwo.below (h : STwo w0 w A n c l B m d f) (hb : Below w.heap.size w w') : STwo w0 w' A n c l B m d f := ⟨h.a.below hb, h.b.below hb, h.ne, bel_on h.bel hb⟩
theorem below_kept0 {w0 w w' : World} (h : Below w0.heap.size w0 w) (k : Kept (fun b => b < w0.heap.size) w w') : Below w0.heap.size w0 w' :=
  ⟨k.os.trans h.os, k.tape.trans h.tape, k.output.trans h.output, Nat.le_trans h.size k.size, fun b hb => (k.block b hb).trans (h.block b hb)⟩
/-- One flag more. -/
theorem STwo.flag (h : STwo w0 w A n c l B m d f) (x : FlagP) (hm : m ≤ 1000) {s : Nat} (hs : w.heap.size = s) :
    ∃ B' d' w', (Builtin.append_ #[48, 48] 48 #[.slice B m d, .slice (some ⟨s, 0, none⟩) 1 1]).run Tryz.prog (w.alloc (.cells #[.int .i64 x.id, .int .i64 x.kd] 145)) = .ok (.slice B' (m + 1) d') w' ∧
      STwo w0 w' A n c l B' (m + 1) d' (f ++ [x]) := by
  obtain ⟨B', d', w', h1, h2, h3, h4, h5⟩ := trow_one (t := 48) (e := 145) (k := 2) (by_ := 16) (z := .agg #[.int .i64 0, .int .i64 0]) Tryz.underlying48 flag_info rfl (by omega) (by omega) h.b (flagL x) rfl hm h.bel.size hs
  have e0 : (ints .i64 (flagL x)).toArray = #[.int .i64 x.id, .int .i64 x.kd] := rfl
  rw [e0] at h1
  refine ⟨B', d', w', h1, ⟨h.a.keep fun g hg => h4 g.block (h.a.lt g hg).2 fun e he q => h.ne g e hg he q.symm, ?_, fun g e hg he => ?_, below_kept0 h.bel h3⟩⟩
  · have e : (f ++ [x]).map flagL = f.map flagL ++ [flagL x] := by simp
    show TRow _ _ _ _ _ _ _ ((f ++ [x]).map flagL)
    rw [e]
    exact h2
  · rcases h5 e he with ⟨e0, q1, q2⟩ | q
    · rw [q2]; exact h.ne g e0 hg q1
    · have := (h.a.lt g hg).2
      omega
/-- More parts. -/
theorem STwo.segs (h : STwo w0 w A n c l B m d f) {D : Option Addr} {p e : Nat} {l' : List SegP} (hs : Sl 5 w D p e (ints .i64 (l'.map segL).flatten)) (hm : n + p ≤ 100000) {q : Nat} (hq : n + p = q) :
    ∃ A' c' w', (Builtin.append_ #[47, 47] 47 #[.slice A n c, .slice D p e]).run Tryz.prog w = .ok (.slice A' q c') w' ∧ STwo w0 w' A' q c' (l ++ l') B m d f := by
  obtain ⟨A', c', w', h1, h2, h3, h4, h5⟩ := trow_append (t := 47) (e := 54) (k := 5) (by_ := 40) (z := .agg #[.int .i64 0, .int .i64 0, .int .i64 0, .int .i64 0, .int .i64 0]) Tryz.underlying47 seg_info rfl (by omega) (by omega) h.a hs hm h.bel.size hq
  refine ⟨A', c', w', h1, ⟨?_, h.b.keep fun g hg => h4 g.block (h.b.lt g hg).2 fun e he q => h.ne e g he hg q, fun g e hg he => ?_, below_kept0 h.bel h3⟩⟩
  · have e : (l ++ l').map segL = l.map segL ++ l'.map segL := by simp
    show TRow _ _ _ _ _ _ _ ((l ++ l').map segL)
    rw [e]
    exact h2
  · rcases h5 g hg with ⟨g0, q1, q2⟩ | q
    · rw [q2]; exact h.ne g0 e q1 he
    · have := (h.b.lt e he).2
      omega
end
/-! ### Words of the walk -/
/-- An operation whose run is known. -/
theorem wpList_exec {P : Program} {ops : Array Oper} {rest : List Oper} {o : Oper} {a : Act} {w : World} {Q : Exit → Act → World → Prop} (hgd : Region.wanted o (yielded ops a.tmps) = true) {v : Value} (hr : (execOp a.eval o).run P w = .ok (.value v) w)
    (h : wpList P ops Q rest (a.put o.dst v) w) : wpList P ops Q (o :: rest) a w := by
  refine wpList_step fun K hK => ?_
  rw [if_pos hgd]
  unfold Oper.wp
  rw [hr]
  exact hK _ _ h
theorem wpList_build_e {ops : Array Oper} {rest : List Oper} {o : Oper} {a : Act} {w : World} {Q : Exit → Act → World → Prop} (hgd : Region.wanted o (yielded ops a.tmps) = true) {y : Operand} (x : EvP)
    (ho : o.op = .buildSlice 31 1 #[(0, y)]) (hy : a.eval y = .agg (evC x)) (h : wpList Tryz.prog ops Q rest (a.put o.dst (.slice (some ⟨w.heap.size, 0, none⟩) 1 1)) (w.alloc (.cells (evC x) 43))) : wpList Tryz.prog ops Q (o :: rest) a w := by
  refine wpList_step fun K hK => ?_
  rw [if_pos hgd]
  exact wp_build_e x ho hy (hK _ _ h)
theorem exec_load_st {o : Oper} {ρ : Operand → Value} {ww : World} (x : Operand) (ho : o.op = .load 30 x) {g : Nat} (hx : ρ x = .pointer (some ⟨g, 0, none⟩)) {cs : Array Value} (hg : Has ww g cs) (hs : cs.size = 23) :
    (execOp ρ o).run Tryz.prog ww = .ok (.value (.agg cs)) ww := by
  obtain ⟨t, hg⟩ := hg
  unfold execOp
  simp only [ho, hx, Instr.loadAt, Instr.sureAddr, Sem.run_bind, Sem.run_pure, Result.andThen_ok, run_loadVar_row (P := Tryz.prog) ww g t 30 cs (0, 0) _ hg Tryz.underlying30 rfl (by rw [hs]; kernel_rfl)]
/-- The numbers of one event of a slice. -/
theorem evs_num {w : World} {b off n c : Nat} {l : List EvP} (h : Evs w (some ⟨b, off, none⟩) n c l) {i : Nat} (hi : i < n) (x : EvP) (hx : l.getD i EvP.none = x) :
    w.cell? ⟨b, off + i * 11, none⟩ = some (.int .i64 x.id) ∧ w.cell? ⟨b, off + i * 11 + 1, none⟩ = some (.int .i64 x.wk) ∧ w.cell? ⟨b, off + i * 11 + 2, none⟩ = some (.int .i64 x.tm) ∧ w.cell? ⟨b, off + i * 11 + 3, none⟩ = some (.int .i64 x.kd) ∧ w.cell? ⟨b, off + i * 11 + 10, none⟩ = some (.int .i64 x.cd) := by
  subst hx
  exact ⟨h.cell hi (j := 0) (by decide), h.cell hi (j := 1) (by decide), h.cell hi (j := 2) (by decide), h.cell hi (j := 3) (by decide), h.cell hi (j := 10) (by decide)⟩
end Go.Proofs.YtpgncbhahocmbaaGreat
