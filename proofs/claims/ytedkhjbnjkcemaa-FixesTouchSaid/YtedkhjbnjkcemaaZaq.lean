/-
  Rows of events of the call's own (append), slices of events cut; where an event is put in.
  event.Sort, with the answer's capacity.
  Package fixes, and the document's own: where the event of a number stands, and which it is.
  Slices of parts, and of flags, in memory: read, of the call's own, appended to, two at a time.
  Package fixes' Find, and the document's own.
-/
import Derived.Test.YtedkhjbnjkcemaaZaj
import Derived.Test.YtedkhjbnjkcemaaZap
import Derived.Test.YtedkhjbnjkcemaaZag
import Derived.Test.YtedkhjbnjkcemaaZac
import Derived.StillTailTactics
import Derived.Deep.Light
import Derived.Test.YtedkhjbnjkcemaaZab
namespace Go.Proofs.Ytedkhjbnjkcemaa
open Go.RowKit Go.Sort
set_option linter.unusedVariables false
set_option linter.unusedSimpArgs false
set_option maxRecDepth 20000

theorem risen_at {l : List EvP} (h : Risen l) {i j : Nat} (hij : i < j) (hj : j < l.length) : lessE (l.getD j EvP.none) (l.getD i EvP.none) = false := by
  have e : l = l.take j ++ l.drop j := (List.take_append_drop j l).symm
  rw [e] at h
  obtain ⟨_, _, h3⟩ := (risen_append _ _).1 h
  refine h3 _ ?_ _ ?_
  · rw [List.getD_eq_getElem?_getD, List.getElem?_eq_getElem (by omega), Option.getD_some]
    exact List.mem_take_iff_getElem.2 ⟨i, by omega, rfl⟩
  · rw [List.getD_eq_getElem?_getD, List.getElem?_eq_getElem hj, Option.getD_some]
    exact List.mem_drop_iff_getElem.2 ⟨0, by omega, by simp⟩
/-- Where an event is put in. -/
theorem ins_place {out : List EvP} (hr : Risen out) (x : EvP) (k : Nat) (hk : k ≤ out.length) (h1 : ∀ j, k ≤ j → j < out.length → lessE x (out.getD j EvP.none) = true) (h2 : k = 0 ∨ lessE x (out.getD (k - 1) EvP.none) = false) :
    insE out x = out.take k ++ (x :: out.drop k) := by
  have a1 : ∀ y ∈ out.take k, lessE x y = false := by
    intro y hy
    obtain ⟨j, hj, rfl⟩ := List.mem_take_iff_getElem.1 hy
    have hjk : j < k := by omega
    have hjl : j < out.length := by omega
    rcases h2 with h2 | h2
    · omega
    · by_cases e : j = k - 1
      · subst e
        rwa [List.getD_eq_getElem?_getD, List.getElem?_eq_getElem hjl, Option.getD_some] at h2
      · have q := risen_at hr (show j < k - 1 by omega) (by omega)
        have := ev_less_not h2 q
        rwa [List.getD_eq_getElem?_getD, List.getElem?_eq_getElem hjl, Option.getD_some] at this
  have a2 : ∀ y ∈ out.drop k, lessE x y = true := by
    intro y hy
    obtain ⟨j, hj, rfl⟩ := List.mem_drop_iff_getElem.1 hy
    have := h1 (k + j) (by omega) (by omega)
    rwa [List.getD_eq_getElem?_getD, List.getElem?_eq_getElem (by omega), Option.getD_some] at this
  have e : out = out.take k ++ out.drop k := (List.take_append_drop k out).symm
  have f1 : out.filter (fun y => !lessE x y) = out.take k := by
    conv => lhs; rw [e]
    rw [List.filter_append, List.filter_eq_self.2 (fun y hy => by rw [a1 y hy]; rfl), List.filter_eq_nil_iff.2 (fun y hy => by rw [a2 y hy]; simp), List.append_nil]
  have f2 : out.filter (fun y => lessE x y) = out.drop k := by
    conv => lhs; rw [e]
    rw [List.filter_append, List.filter_eq_self.2 (fun y hy => a2 y hy), List.filter_eq_nil_iff.2 (fun y hy => by rw [a1 y hy]; simp), List.nil_append]
  rw [insE, f1, f2]
theorem sortE_snoc (l : List EvP) (x : EvP) : sortE (l ++ [x]) = insE (sortE l) x := by simp [sortE, List.foldl_append]
theorem sortE_length (l : List EvP) : (sortE l).length = l.length := (ev_sort_perm l).length_eq
/-! ### Slices cut -/
theorem ev_size (w : World) : (sizeOf (Try.prog.elem 31)).run Try.prog w = .ok 11 w := by kernel_rfl
theorem evs_len {l : List EvP} : (ints .i64 (l.map evLs).flatten).length = l.length * 11 := by
  have := rows_len (l.map evLs) (evs_wide l)
  rw [List.length_map] at this
  rw [ints, List.length_map, this, Nat.mul_comm]
theorem evs_take {l : List EvP} (k : Nat) : (ints .i64 ((l.take k).map evLs).flatten) = (ints .i64 (l.map evLs).flatten).take (k * 11) := by
  apply List.ext_getElem?
  intro t
  by_cases h : t < (l.take k).length * 11
  · have hk : t < k * 11 ∧ t < l.length * 11 := by rw [List.length_take] at h; omega
    rw [evs_cell _ h, List.getElem?_take, if_pos hk.1, evs_cell _ hk.2]
    have e : (l.take k).getD (t / 11) EvP.none = l.getD (t / 11) EvP.none := by
      rw [List.getD_eq_getElem?_getD, List.getElem?_take, if_pos (by omega), ← List.getD_eq_getElem?_getD]
    rw [e]
  · rw [List.getElem?_eq_none (by rw [evs_len]; omega), List.getElem?_take]
    split
    · rw [List.getElem?_eq_none (by rw [evs_len]; rw [List.length_take] at h; omega)]
    · rfl
theorem evs_drop {l : List EvP} (k : Nat) : (ints .i64 ((l.drop k).map evLs).flatten) = (ints .i64 (l.map evLs).flatten).drop (k * 11) := by
  apply List.ext_getElem?
  intro t
  rw [List.getElem?_drop]
  by_cases h : t < (l.drop k).length * 11
  · have hk : k * 11 + t < l.length * 11 := by rw [List.length_drop] at h; omega
    rw [evs_cell _ h, evs_cell _ hk, show (k * 11 + t) / 11 = k + t / 11 by omega, show (k * 11 + t) % 11 = t % 11 by omega]
    have e : (l.drop k).getD (t / 11) EvP.none = l.getD (k + t / 11) EvP.none := by
      rw [List.getD_eq_getElem?_getD, List.getElem?_drop, ← List.getD_eq_getElem?_getD]
    rw [e]
  · rw [List.getElem?_eq_none (by rw [evs_len]; omega), List.getElem?_eq_none (by rw [evs_len]; rw [List.length_drop] at h; omega)]
theorem evcut_from {w : World} {A : Option Addr} {m c : Nat} {l : List EvP} (h : Evs w A m c l) (hmc : m ≤ c) (n : Nat) (hn : n ≤ m) :
    ∃ A', (∀ w', (Instr.sliceAt 31 (.slice A m c) (some (.int .i64 (n : Int))) none none).run Try.prog w' = .ok (.slice A' (m - n) (c - n)) w') ∧ Evs w A' (m - n) (c - n) (l.drop n) := by
  have hl := h.2
  have hrun : ∀ w', (Instr.sliceAt 31 (.slice A m c) (some (.int .i64 (n : Int))) none none).run Try.prog w' = .ok (.slice (if c = n then A else A.map (·.add (n * 11))) (m - n) (c - n)) w' := by
    intro w'
    rw [run_sliceAt_slice _ _ _ _ _ _ Try.underlying31, run_slice_l _ _ _ _ _ Try.underlying31 .i64 (n : Int) (by omega) (by omega), ev_size]
    simp [sliced, Result.andThen]
  refine ⟨_, hrun, ?_, by rw [List.length_drop]; omega⟩
  obtain ⟨⟨hl', ⟨rfl, rfl, rfl⟩ | ⟨ad, rfl, hc⟩⟩, _⟩ := h
  · obtain rfl : n = 0 := by omega
    exact ⟨by rw [evs_len, List.length_drop]; omega, .inl ⟨by simp, rfl, rfl⟩⟩
  · refine ⟨by rw [evs_len, List.length_drop]; omega, .inr ?_⟩
    by_cases h0 : m - n = 0
    · have e : l.drop n = [] := List.drop_of_length_le (by omega)
      by_cases hcn : c = n
      · rw [if_pos hcn, e]; exact ⟨ad, rfl, fun j u hu => by simp [ints] at hu⟩
      · rw [if_neg hcn, e]; exact ⟨_, rfl, fun j u hu => by simp [ints] at hu⟩
    · rw [if_neg (by omega)]
      obtain ⟨b, off, e⟩ := (show Evs w (some ad) m c l from ⟨⟨hl', .inr ⟨ad, rfl, hc⟩⟩, hl⟩).form (by omega)
      injection e with e
      subst e
      refine ⟨_, rfl, fun j u hu => ?_⟩
      rw [evs_drop, List.getElem?_drop] at hu
      have := hc (n * 11 + j) u hu
      rw [tab_add] at this
      show w.cell? (((⟨b, off, none⟩ : Addr).add (n * 11)).add j) = some u
      rw [tab_add, tab_add, Nat.add_assoc]
      exact this
theorem evcut_to {w : World} {A : Option Addr} {m c : Nat} {l : List EvP} (h : Evs w A m c l) (hmc : m ≤ c) (n : Nat) (hn : n ≤ m) :
    ∃ A', (∀ w', (Instr.sliceAt 31 (.slice A m c) none (some (.int .i64 (n : Int))) none).run Try.prog w' = .ok (.slice A' n c) w') ∧ Evs w A' n c (l.take n) := by
  have hl := h.2
  have hrun : ∀ w', (Instr.sliceAt 31 (.slice A m c) none (some (.int .i64 (n : Int))) none).run Try.prog w' = .ok (.slice (if c = 0 then A else A.map (·.add 0)) n c) w' := by
    intro w'
    rw [run_sliceAt_slice _ _ _ _ _ _ Try.underlying31, run_slice_h _ _ _ _ _ Try.underlying31 .i64 (n : Int) (by omega) (by omega), ev_size]
    simp [sliced, Result.andThen]
  refine ⟨_, hrun, ?_, by rw [List.length_take]; omega⟩
  have e : (if c = 0 then A else A.map (·.add 0)) = A := by
    split
    · rfl
    · cases A with
      | none => rfl
      | some ad =>
        rw [Option.map_some]
        unfold Addr.add
        split <;> simp_all
  rw [e]
  obtain ⟨⟨hl', ⟨rfl, rfl, rfl⟩ | ⟨ad, rfl, hc⟩⟩, _⟩ := h
  · obtain rfl : n = 0 := by omega
    exact ⟨by rw [evs_len]; simp, .inl ⟨rfl, rfl, rfl⟩⟩
  · refine ⟨by rw [evs_len, List.length_take]; omega, .inr ⟨ad, rfl, fun j u hu => hc j u ?_⟩⟩
    rw [evs_take, List.getElem?_take] at hu
    split at hu
    · exact hu
    · cases hu
/-! ### Rows -/
abbrev ERow (w : World) (base : Nat) (A : Option Addr) (n c : Nat) (l : List EvP) : Prop := TRow 33 11 w base A n c (l.map evLs)
theorem ERow.evs {w : World} {base : Nat} {A : Option Addr} {n c : Nat} {l : List EvP} (h : ERow w base A n c l) (hn : l.length = n) : Evs w A n c l := ⟨Sl.of_own h, hn⟩
theorem erow_mono {w : World} {base b : Nat} {A : Option Addr} {n c : Nat} {l : List EvP} (h : ERow w base A n c l) (hb : b ≤ base) : ERow w b A n c l := by
  obtain ⟨hl, hn | ⟨g, cap, cur, hv, hg, rest⟩⟩ := h
  · exact ⟨hl, .inl hn⟩
  · exact ⟨hl, .inr ⟨g, cap, cur, hv, by omega, rest⟩⟩
theorem erow_empty (w : World) : ERow (w.alloc (.cells #[] 33)) w.heap.size (some ⟨w.heap.size, 0, none⟩) 0 0 [] := own_new w 33 11 0 #[] rfl (by decide)
/-- One event, laid for an append. -/
theorem evs_one (w : World) (x : EvP) : Evs (w.alloc (.cells (evC x) 33)) (some ⟨w.heap.size, 0, none⟩) 1 1 [x] := by
  have := own_new w 33 11 1 (evC x) rfl (by decide)
  refine ⟨?_, rfl⟩
  have h := Sl.of_own this
  have e : (evC x).toList = ints .i64 ([x].map evLs).flatten := rfl
  rw [← e]
  exact h
/-- An append of what a slice of events holds. -/
theorem erow_append {w : World} {base c : Nat} {A : Option Addr} {n : Nat} {l : List EvP} (h : ERow w base A n c l) {B : Option Addr} {m d : Nat} {l' : List EvP} (hs : Evs w B m d l') (hm : n + m ≤ 100000) (hbase : base ≤ w.heap.size) {k : Nat} (hk : n + m = k) :
    ∃ A' c' w', (Builtin.append_ #[31, 31] 31 #[.slice A n c, .slice B m d]).run Try.prog w = .ok (.slice A' k c') w' ∧ ERow w' base A' k c' (l ++ l') ∧
      (∀ a : World, a.heap.size ≤ base → Below a.heap.size a w → Below a.heap.size a w') ∧ (∀ b, b < w.heap.size → (∀ g, A = some g → b ≠ g.block) → w'.heap[b]? = w.heap[b]?) := by
  subst hk
  obtain ⟨A', c', w', hr, ho, hg, hl⟩ := append_any (P := Try.prog) w base 31 31 33 _ 11 88 Try.underlying31 ev_info rfl (by omega) h hs.1 (ints_one .i64 _) (n + m) rfl (ints .i64 ((l ++ l').map evLs).flatten) (by simp [ints]) (by omega) (by omega) hbase
  refine ⟨A', c', w', hr, ho, fun a ha hb => bel_grown hb h ha hg, fun b hb hne => ?_⟩
  obtain ⟨_, _, _, _, q⟩ := hg
  refine q b hb (fun e => ?_)
  rcases h.2 with ⟨hv, _⟩ | ⟨g, cap, cur, hv, _⟩
  · injection hv with e1 e2 e3
    subst e1
    simp [Value.ownBlock] at e
  · injection hv with e1 e2 e3
    subst e1
    have e' : some g = some b := e.symm
    injection e' with e'
    exact hne _ rfl e'.symm
theorem wp_append_run8 {P : Program} {o : Oper} {a : Act} {w w' : World} {K : Act → World → Prop} {Q : Exit → Act → World → Prop} {s x : Operand} {t : TypeId} {v u v' : Value}
    (hr : (Builtin.append_ #[t, t] o.type #[v, u]).run P w = .ok v' w')
    (ho : o.op = .call { callee := .builtin .append, args := #[s, x], argTypes := #[t, t] }) (hs : a.eval s = v) (hx : a.eval x = u)
    (h : K (a.put o.dst v') w') : o.wp P a w K Q := by
  unfold Oper.wp execOp
  simp only [ho, resolve, invoke, builtin, Sem.run_bind, Sem.run_pure, Result.andThen_ok, List.map_toArray, List.map_cons, List.map_nil, hs, hx, hr]
  exact h
theorem wp_build_e {o : Oper} {a : Act} {w : World} {K : Act → World → Prop} {Q : Exit → Act → World → Prop} {y : Operand} (x : EvP)
    (ho : o.op = .buildSlice 31 1 #[(0, y)]) (hy : a.eval y = .agg (evC x)) (h : K (a.put o.dst (.slice (some ⟨w.heap.size, 0, none⟩) 1 1)) (w.alloc (.cells (evC x) 33))) : o.wp Try.prog a w K Q := by
  obtain ⟨a1, a2, a3', a4, a5, a6, a7, a8, a9, a10, a11⟩ := x
  simp only [evC] at hy h
  unfold Oper.wp execOp
  simp only [ho, List.map_toArray, List.map_cons, List.map_nil, hy]
  go_simp
  exact h
theorem erow_caps {w : World} {base : Nat} {A : Option Addr} {n c : Nat} {l : List EvP} (h : ERow w base A n c l) : n ≤ c ∧ c ≤ 9223372036854775807 := by
  obtain ⟨hl, ⟨hv, hz⟩ | ⟨g, cap, cur, hv, hb, hh, hc, hm, _⟩⟩ := h
  · injection hv with e1 e2 e3
    omega
  · injection hv with e1 e2 e3
    simp only [maxLen] at hm
    omega
theorem Evs.keep {w w' : World} {A : Option Addr} {n c : Nat} {l : List EvP} (h : Evs w A n c l) (hk : ∀ g, A = some g → w'.heap[g.block]? = w.heap[g.block]?) : Evs w' A n c l := by
  obtain ⟨⟨hl, h0 | ⟨ad, rfl, hc⟩⟩, hn⟩ := h
  · exact ⟨⟨hl, .inl h0⟩, hn⟩
  · refine ⟨⟨hl, .inr ⟨ad, rfl, fun j u hu => ?_⟩⟩, hn⟩
    rw [← hc j u hu]
    have e := hk _ rfl
    unfold World.cell?
    rw [show (ad.add j).block = ad.block by unfold Addr.add; split <;> rfl, e]
end Go.Proofs.Ytedkhjbnjkcemaa

namespace Go.Proofs.Ytedkhjbnjkcemaa
open Go.RowKit Go.Sort
set_option linter.unusedVariables false
set_option linter.unusedSimpArgs false
set_option maxRecDepth 20000

/-- 'slices.Clone' of events. -/
theorem evclone_caps (A : Option Addr) (n c : Nat) (l : List EvP) (W : World) (h : Evs W A n c l) (hm : n ≤ 1000000) :
    Calls Try.prog 32 #[.slice A n c] W fun e w' => ∃ A' c', e = .returned (.slice A' n c') ∧ Below W.heap.size W w' ∧ (0 < n → ∃ g, A' = some ⟨g, 0, none⟩ ∧ W.heap.size ≤ g ∧ g < w'.heap.size ∧ HoldE w' g l.toArray) ∧ (l = [] → Evs w' A' n c' []) ∧ n ≤ c' ∧ c' ≤ 9223372036854775807 := by
  have qT : ∀ (w : World) (a : Option Addr) (n c n' c' : Nat), (binOp .eql 31 (.slice a n c) (.slice none n' c')).run Try.prog w = .ok (.bool a.isNone) w := fun w a n c n' c' => Lib.run_eql_slice_nil w _ _ a n c n' c' Try.underlying31
  cases A with
  | none =>
    have hn0 : n = 0 := by
      rcases Nat.eq_zero_or_pos n with h0 | h0
      · exact h0
      · obtain ⟨b, off, e⟩ := h.form h0; cases e
    subst hn0
    go_enter Try.func32, Try.ntmps32
    go_wp2
    go_ret
    exact ⟨none, 0, rfl, Below.refl _ _, fun h => absurd h (by omega), fun _ => ⟨⟨by simp [ints], .inl ⟨rfl, rfl, rfl⟩⟩, rfl⟩, by omega, by omega⟩
  | some ad =>
    obtain ⟨hsl, hln⟩ := h
    have ho := own_new W 33 11 0 #[] rfl (by decide)
    obtain ⟨A', c', w', hr, hown, hg, hl⟩ := append_any (P := Try.prog) (W.alloc (.cells #[] 33)) W.heap.size 31 31 33 _ 11 88 Try.underlying31 ev_info rfl (by omega) ho (hsl.alloc _) (ints_one .i64 _) n (by omega) (ints .i64 (l.map evLs).flatten) (by simp) (by omega) (by omega) (by simp)
    have HR := Lib.hid hr
    have hb : Below W.heap.size W w' := bel_grown (bel_alloc (Below.refl _ _) _) ho (Nat.le_refl _) hg
    have hown0 := hown
    have hcaps := erow_caps (l := l) (n := n) (base := W.heap.size) (w := w') (A := A') (c := c') hown
    have hfin : 0 < n → ∃ g, A' = some ⟨g, 0, none⟩ ∧ W.heap.size ≤ g ∧ g < w'.heap.size ∧ HoldE w' g l.toArray := by
      intro h0
      have hlt := World.ownsRow.lt hown
      have hown' := hown
      obtain ⟨hl', ⟨hv, hz⟩ | ⟨g, cap, cur, hv, hbg, hh, _⟩⟩ := hown
      · omega
      · injection hv with e1 e2 e3
        subst e1
        have := hlt _ rfl
        refine ⟨g, rfl, hbg, this.2, holdE_cell (fun t ht => ?_) (fun t => World.ownsRow.frozenAt hown' t)⟩
        rw [hln] at ht
        exact World.ownsRow.cellAt hown' t ht
    have hfin2 : l = [] → Evs w' A' n c' [] := by
      rintro rfl
      have hs := Sl.of_own hown0
      exact ⟨by simpa using hs, hln⟩
    have HF := Lib.hid hfin
    have HCP := Lib.hid hcaps
    have HF2 := Lib.hid hfin2
    clear hr hown hown0 hg hl ho hsl hfin hfin2 hcaps
    go_enter Try.func32, Try.ntmps32
    go_wp2_with (at_builtin; refine wpList_append_run HR.out rfl rfl rfl rfl ?_)
    go_ret
    exact ⟨A', c', rfl, hb, HF.out, HF2.out, HCP.out⟩
theorem sort_caps_of (A : Option Addr) (n c : Nat) (l : List EvP) (W : World) (h : Evs W A n c l) (hm : n ≤ 1000000)
    (H : ∀ (g c' : Nat) (w : World), 0 < n → HoldE w g l.toArray → g < w.heap.size → Calls Try.prog 57 #[.slice (some ⟨g, 0, none⟩) n c', .int .i64 n, cmpV] w fun e w' => e = .returned (.tuple #[]) ∧ ∃ d' : Array EvP, HoldE w' g d' ∧ w.grownBy w' (some g) ∧ d'.toList = sortE l) :
    Calls Try.prog 18 #[.slice A n c] W fun e w' => ∃ A' c', e = .returned (.slice A' n c') ∧ Below W.heap.size W w' ∧ Evs w' A' n c' (sortE l) ∧ n ≤ c' ∧ c' ≤ 9223372036854775807 := by
  have HC := Lib.hid (evclone_caps A n c l W h hm)
  have hln := h.2
  have HLN := Lib.hid hln
  have HH := Lib.hid H
  clear h hln H
  go_enter Try.func18, Try.ntmps18
  go_wp2_with fail
  refine HC.out.mono ?_
  rintro e w1 ⟨A', c', rfl, hb1, hg1, hz1, hcp⟩
  have HCP := Lib.hid hcp
  clear hcp
  have hS : Calls Try.prog 33 #[.slice A' n c', cmpV] w1 fun e w' => e = .returned (.tuple #[]) ∧ (Below W.heap.size W w' ∧ Evs w' A' n c' (sortE l)) := by
    rcases Nat.eq_zero_or_pos n with h0 | h0
    · subst h0
      refine sortstable_of A' 0 c' w1 hm _ (stable_few A' 0 c' w1 (by omega) _ ((ins_none_e A' c' cmpV w1).mono ?_))
      rintro e w2 ⟨rfl, rfl⟩
      have hl0 : l = [] := List.length_eq_zero_iff.1 HLN.out
      subst hl0
      exact ⟨rfl, hb1, hz1 (by simp)⟩
    · obtain ⟨g, rfl, hWg, hgl, hH⟩ := hg1 h0
      refine sortstable_of _ n c' w1 hm _ ((HH.out g c' w1 h0 hH hgl).mono ?_)
      rintro e w2 ⟨rfl, d', hd, hgr, hdl⟩
      refine ⟨rfl, hb1.grown hgr hb1.size (fun k hk => by injection hk with hk; omega), ?_⟩
      have := evs_of_holdE (c := c') hd
      have hz : d'.size = n := by
        have e1 := congrArg List.length hdl
        rw [(ev_sort_perm l).length_eq, HLN.out] at e1
        simpa using e1
      rw [hz, hdl] at this
      exact this
  have HS := Lib.hid hS
  clear hS hg1 hb1 HC HH
  generalize hcv : cmpV = cv at HS
  unfold cmpV at hcv
  subst hcv
  go_wp2_with fail
  refine HS.out.mono ?_
  rintro e w2 ⟨rfl, hF⟩
  go_wp2
  go_ret
  exact ⟨A', c', rfl, hF.1, hF.2, HCP.out⟩
theorem sort_caps_few (A : Option Addr) (n c : Nat) (l : List EvP) (W : World) (h : Evs W A n c l) (h20 : n < 20) :
    Calls Try.prog 18 #[.slice A n c] W fun e w' => ∃ A' c', e = .returned (.slice A' n c') ∧ Below W.heap.size W w' ∧ Evs w' A' n c' (sortE l) ∧ n ≤ c' ∧ c' ≤ 9223372036854775807 := by
  refine sort_caps_of A n c l W h (by omega) (fun g c' w h0 hH hgl => stable_few _ n c' w h20 _ ?_)
  have hz : l.toArray.size = n := by simpa using h.2
  refine (ins_any g c' 0 n n l.toArray w hH hgl hz (by omega) (Nat.le_refl _) (by omega)).mono ?_
  rintro e w' ⟨rfl, h1, h2⟩
  have hm := ins_mrg l.toArray 0 n (by omega) (by omega)
  have hz2 : (insertionSort lessE l.toArray 0 n).size = n := by rw [hm.1.1, hz]
  refine ⟨rfl, _, h1, h2, ?_⟩
  have := sorted_is (d := l.toArray) (d' := insertionSort lessE l.toArray 0 n) (by rw [hz2]; exact hm.2.1) hm.2.2
  simpa using this
/-- event.Sort. -/
theorem esort_caps (A : Option Addr) (n c : Nat) (l : List EvP) (W : World) (h : Evs W A n c l) (hm : n ≤ 1000000) :
    Calls Try.prog 18 #[.slice A n c] W fun e w' => ∃ A' c', e = .returned (.slice A' n c') ∧ Below W.heap.size W w' ∧ Evs w' A' n c' (sortE l) ∧ n ≤ c' ∧ c' ≤ 9223372036854775807 := by
  by_cases h20 : n < 20
  · exact sort_caps_few A n c l W h h20
  · have hln := h.2
    exact sort_caps_of A n c l W h hm (fun g c' w h0 hH hgl => stable_any g c' n l.toArray l w hH hgl (by simpa using hln) hm (by simp) (by omega))
end Go.Proofs.Ytedkhjbnjkcemaa

namespace Go.Proofs.Ytedkhjbnjkcemaa
open Go.RowKit
set_option linter.unusedVariables false
set_option linter.unusedSimpArgs false
set_option maxRecDepth 20000

theorem place1_any (x : EvP) (N : Nat) (id : Int) (w : World) (hN : Has w N #[.int .i64 id]) (b : Bool) (hb : decide (x.id = id) = b) :
    Calls Try.prog 50 #[.agg (evC x), .pointer (some ⟨N, 0, none⟩)] w fun e w' => e = .returned (.bool b) ∧ Below w.heap.size w w' := by
  have q0 := (Has.new w 33 (evC x) rfl).cell 0 (show (evC x)[0]? = some (.int .i64 x.id) from rfl)
  have qn := (hN.alloc (.cells (evC x) 33)).cell 0 rfl
  have hb0 := bel_alloc (Below.refl w.heap.size w) (.cells (evC x) 33)
  have qz := cell_lt q0
  clear hN
  generalize evC x = ce at *
  generalize x.id = i at *
  by_cases h : i = id
  · obtain rfl : b = true := by rw [← hb]; simp [h]
    subst h
    clear hb
    go_enter Try.func50, Try.ntmps50
    go_wp2
    go_ret
    exact ⟨rfl, hb0⟩
  · obtain rfl : b = false := by rw [← hb]; simp [h]
    have h' : (i == id) = false := beq_eq_false_iff_ne.2 h
    clear hb
    go_enter Try.func50, Try.ntmps50
    go_wp2
    go_ret
    exact ⟨rfl, hb0⟩
/-- In a walk: an event of a slice is loaded. -/
theorem wpList_load_ev {ops : Array Oper} {rest : List Oper} {o : Oper} {a : Act} {w : World} {Q : Exit → Act → World → Prop} {b off n c : Nat} {l : List EvP} (h : Evs w (some ⟨b, off, none⟩) n c l) {i : Nat} (hi : i < n) {y : EvP} (hy : l.getD i EvP.none = y)
    (hgd : Region.wanted o (yielded ops a.tmps) = true) (x : Operand) (ho : o.op = .load 33 x) (hx : a.eval x = .pointer (some ⟨b, off + i * 11, none⟩))
    (hK : wpList Try.prog ops Q rest (a.put o.dst (.agg (evC y))) w) : wpList Try.prog ops Q (o :: rest) a w := by
  subst hy
  refine wpList_step fun K hK' => ?_
  rw [if_pos hgd]
  unfold Oper.wp
  rw [exec_load_at x ho hx (evs_load h hi)]
  exact hK' _ _ hK
set_option maxHeartbeats 2000000 in
theorem indexE_any (A : Option Addr) (n c N : Nat) (l : List EvP) (id : Int) (w : World) (h : Evs w A n c l) (hN : Has w N #[.int .i64 id]) (hn : n ≤ 1000000) :
    Calls Try.prog 49 #[.slice A n c, .func (.func 50) #[] #[.pointer (some ⟨N, 0, none⟩)]] w fun e w' => e = .returned (.int .i64 (ixZ l id)) ∧ Below w.heap.size w w' := by
  have HT := Lib.hid h
  have HN := Lib.hid hN
  have HL := Lib.hid h.2
  have eg : ∀ args w, (callFunc 50 args).run Try.prog w = .ok (.enter 50 args) w := enters_of Try.func50 (by kernel_rfl) rfl
  clear h hN
  go_enter Try.func49, Try.ntmps49
  go_wp2
  go_loopw [8] (fun i wr => ∃ (k : Nat), k ≤ n ∧ i = .int .i64 k ∧ Hid (∀ j, j < k → (l.getD j EvP.none).id ≠ id) ∧ Below w.heap.size w wr) (fun i _ => n - (intOf i).toNat)
  case atStart => exact ⟨0, Nat.zero_le _, rfl, Lib.hid (fun j hj => by omega), Below.refl _ _⟩
  case round =>
    obtain ⟨k, hk, rfl, ha, hbw⟩ := hrel
    by_cases hlt : k < n
    · have ht := HT.out.below hbw
      obtain ⟨b, off, rfl⟩ := ht.form (by omega)
      have HE := Lib.hid ht
      have hz := cell_lt (ht.cell hlt (j := 0) (by omega))
      have HH := Lib.hid (HN.out.below hbw)
      obtain ⟨y, hy⟩ : ∃ y, l.getD k EvP.none = y := ⟨_, rfl⟩
      have HY := Lib.hid hy
      obtain ⟨q, hq⟩ : ∃ q, decide (y.id = id) = q := ⟨_, rfl⟩
      have HP := Lib.hid (place1_any y N id _ HH.out q hq)
      have HQ := Lib.hid hq
      clear ht hy hq
      go_wp2_with (first | refine wpList_load_ev HE.out hlt HY.out rfl _ rfl rfl ?_ | fail)
      refine HP.out.mono ?_
      rintro e w2 ⟨rfl, hb2⟩
      replace hb2 := bel_on hbw hb2
      cases q with
      | true =>
        have hs : Hid (ixZ l id = k) := by
          have e1 : ixE l id = some k := ixE_of (by rw [HL.out]; exact hlt) (by rw [HY.out]; simpa using HQ.out) ha.out
          show _ = _
          unfold ixZ; rw [e1]
        go_wp2
        go_ret
        exact ⟨ret_one hs.out.symm, hb2⟩
      | false =>
        have hs : Hid (∀ j, j < k + 1 → (l.getD j EvP.none).id ≠ id) := Lib.hid (fun j hj => by
          by_cases e : j = k
          · subst e; rw [HY.out]; simpa using HQ.out
          · exact ha.out j (by omega))
        clear HQ HP HE HY
        go_wp2
        go_roundw
        case rel => exact ⟨k + 1, by omega, by go_num, hs, hb2⟩
        case measure => simp [intOf]; omega
    · obtain rfl : k = n := by omega
      have hs : Hid (ixZ l id = -1) := by
        have e1 : ixE l id = none := ixE_none_of fun j hj => ha.out j (by rw [HL.out] at hj; exact hj)
        show _ = _
        unfold ixZ; rw [e1]
      go_wp2
      go_ret
      exact ⟨ret_one hs.out.symm, hbw⟩
theorem place_any (A : Option Addr) (n c : Nat) (l : List EvP) (id : Int) (w : World) (h : Evs w A n c l) (hn : n ≤ 1000000) :
    Calls Try.prog 28 #[.slice A n c, .int .i64 id] w fun e w' => e = .returned (.int .i64 (ixZ l id)) ∧ Below w.heap.size w w' := by
  have hb0 := bel_alloc (Below.refl w.heap.size w) (.cells #[.int .i64 id] 3)
  have HI := Lib.hid (indexE_any A n c w.heap.size l id (w.alloc (.cells #[.int .i64 id] 3)) ⟨h.1.alloc _, h.2⟩ (Has.new _ _ _ rfl) hn)
  clear h
  generalize ixZ l id = r at *
  go_enter Try.func28, Try.ntmps28
  go_wp2_with fail
  refine HI.out.mono ?_
  rintro e w2 ⟨rfl, hb2⟩
  replace hb2 := bel_on hb0 hb2
  go_wp2
  go_ret
  exact ⟨rfl, hb2⟩
set_option maxHeartbeats 2000000 in
theorem rat13_any (A : Option Addr) (n c : Nat) (l : List EvP) (id : Int) (w : World) (h : Evs w A n c l) (hn : n ≤ 1000000) :
    Calls Try.prog 26 #[.slice A n c, .int .i64 id] w fun e w' => e = .returned (.int .i64 (ixZ l id)) ∧ w = w' := by
  have HT := Lib.hid h
  have HL := Lib.hid h.2
  clear h
  go_enter Try.func26, Try.ntmps26
  go_wp2
  go_loop [5] (fun i => ∃ (k : Nat), k ≤ n ∧ i = .int .i64 k ∧ Hid (∀ j, j < k → (l.getD j EvP.none).id ≠ id)) (fun i => n - (intOf i).toNat)
  case atStart => exact ⟨0, Nat.zero_le _, rfl, Lib.hid (fun j hj => by omega)⟩
  case round =>
    obtain ⟨k, hk, rfl, ha⟩ := hrel
    by_cases hlt : k < n
    · obtain ⟨b, off, rfl⟩ := HT.out.form (by omega)
      have c0 := HT.out.cell hlt (j := 0) (by omega)
      have hz := cell_lt c0
      have e0 : (encE (l.getD k EvP.none)).getD 0 undef = .int .i64 (l.getD k EvP.none).id := rfl
      rw [e0] at c0
      simp only [Nat.add_zero] at c0
      clear e0
      by_cases hq : (l.getD k EvP.none).id = id
      · have hs : Hid (ixZ l id = k) := by
          have e1 : ixE l id = some k := ixE_of (by rw [HL.out]; exact hlt) hq ha.out
          show _ = _
          unfold ixZ; rw [e1]
        rw [hq] at c0
        clear hq
        go_wp2
        go_ret
        exact ⟨ret_one hs.out.symm, rfl⟩
      · have hs : Hid (∀ j, j < k + 1 → (l.getD j EvP.none).id ≠ id) := Lib.hid (fun j hj => by
          by_cases e : j = k
          · subst e; exact hq
          · exact ha.out j (by omega))
        have hq' : ((l.getD k EvP.none).id == id) = false := beq_eq_false_iff_ne.2 hq
        clear hq
        generalize (l.getD k EvP.none).id = i at *
        go_wp2
        go_round
        case rel => exact ⟨k + 1, by omega, by go_num, hs⟩
        case measure => simp [intOf]; omega
    · obtain rfl : k = n := by omega
      have hs : Hid (ixZ l id = -1) := by
        have e1 : ixE l id = none := ixE_none_of fun j hj => ha.out j (by rw [HL.out] at hj; exact hj)
        show _ = _
        unfold ixZ; rw [e1]
      go_wp2
      go_ret
      exact ⟨ret_one hs.out.symm, rfl⟩
end Go.Proofs.Ytedkhjbnjkcemaa

namespace Go.Proofs.Ytedkhjbnjkcemaa
open Go.RowKit
set_option linter.unusedVariables false
set_option linter.unusedSimpArgs false
set_option maxRecDepth 20000

theorem trow_mono {e : TypeId} {k : Nat} {w : World} {base b n c : Nat} {A : Option Addr} {rows : Rows2} (h : TRow e k w base A n c rows) (hb : b ≤ base) : TRow e k w b A n c rows := by
  obtain ⟨hl, hn | ⟨g, cap, cur, hv, hg, rest⟩⟩ := h
  · exact ⟨hl, .inl hn⟩
  · exact ⟨hl, .inr ⟨g, cap, cur, hv, by omega, rest⟩⟩
/-- An append of what a slice of structs holds. -/
theorem trow_append {t e : TypeId} {k by_ : Nat} {z : Value} (ht : Try.prog.underlying t = some (.slice e)) (hinfo : (Try.prog.info? e).map (fun i => (i.zero, i.size, i.bytes)) = some (some z, k, by_)) (hz : z.cells.size = k) (hk : 0 < k) (hby : by_ ≤ 200)
    {w : World} {base n c : Nat} {A : Option Addr} {rows : Rows2} (h : TRow e k w base A n c rows) {B : Option Addr} {m d : Nat} {rows' : Rows2} (hs : Sl k w B m d (ints .i64 rows'.flatten)) (hm : n + m ≤ 100000) (hbase : base ≤ w.heap.size) {q : Nat} (hq : n + m = q) :
    ∃ A' c' w', (Builtin.append_ #[t, t] t #[.slice A n c, .slice B m d]).run Try.prog w = .ok (.slice A' q c') w' ∧ TRow e k w' base A' q c' (rows ++ rows') ∧ Kept (fun b => b < base) w w' ∧
      (∀ b, b < w.heap.size → (∀ g, A = some g → g.block ≠ b) → w'.heap[b]? = w.heap[b]?) ∧ (∀ g', A' = some g' → (∃ g, A = some g ∧ g'.block = g.block) ∨ w.heap.size ≤ g'.block) := by
  subst hq
  have hb : (n + m) * by_ ≤ 100000 * 200 := Nat.mul_le_mul hm hby
  obtain ⟨A', c', w', hr, ho, hg, hl⟩ := append_any (P := Try.prog) w base t t e z k by_ ht hinfo hz hk h hs (ints_one .i64 _) (n + m) rfl (ints .i64 (rows ++ rows').flatten) (by simp [ints]) (by omega) (by omega) hbase
  have hkeep : ∀ b, b < w.heap.size → (∀ g, A = some g → g.block ≠ b) → w'.heap[b]? = w.heap[b]? := fun b hb hne => by
    refine hg.block b hb ?_
    cases A with
    | none => simp [Value.ownBlock]
    | some g0 =>
      have := hne g0 rfl
      simp only [Value.ownBlock]
      intro q
      simp at q
      omega
  refine ⟨A', c', w', hr, ho, ⟨hg.os, hg.tape, hg.output, hg.size, fun b hb => hkeep b (by omega) fun g e => ?_⟩, hkeep, fun g' e => ?_⟩
  · have := (h.lt g e).1
    omega
  · subst e
    rcases hl with e | e
    · cases A with
      | none => simp [Value.ownBlock] at e
      | some a0 => simp [Value.ownBlock] at e; exact .inl ⟨a0, rfl, e⟩
    · simp [Value.ownBlock] at e; exact .inr (by omega)
/-- One more, laid for it. -/
theorem trow_one {t e : TypeId} {k by_ : Nat} {z : Value} (ht : Try.prog.underlying t = some (.slice e)) (hinfo : (Try.prog.info? e).map (fun i => (i.zero, i.size, i.bytes)) = some (some z, k, by_)) (hz : z.cells.size = k) (hk : 0 < k) (hby : by_ ≤ 200)
    {w : World} {base n c : Nat} {A : Option Addr} {rows : Rows2} (h : TRow e k w base A n c rows) (r : List Int) (hr : r.length = k) (hm : n ≤ 1000) (hbase : base ≤ w.heap.size) {s : Nat} (hs : w.heap.size = s) :
    ∃ A' c' w', (Builtin.append_ #[t, t] t #[.slice A n c, .slice (some ⟨s, 0, none⟩) 1 1]).run Try.prog (w.alloc (.cells (ints .i64 r).toArray e)) = .ok (.slice A' (n + 1) c') w' ∧ TRow e k w' base A' (n + 1) c' (rows ++ [r]) ∧ Kept (fun b => b < base) w w' ∧
      (∀ b, b < w.heap.size → (∀ g, A = some g → g.block ≠ b) → w'.heap[b]? = w.heap[b]?) ∧ (∀ g', A' = some g' → (∃ g, A = some g ∧ g'.block = g.block) ∨ w.heap.size ≤ g'.block) := by
  subst hs
  have hs' : Sl k (w.alloc (.cells (ints .i64 r).toArray e)) (some ⟨w.heap.size, 0, none⟩) 1 1 (ints .i64 [r].flatten) := by
    have := own_new w e k 1 (ints .i64 r).toArray (by simp [ints, hr]) (by simp only [maxLen]; omega)
    have h2 := Sl.of_own this
    simpa using h2
  obtain ⟨A', c', w', h1, h2, h3, h4, h5⟩ := trow_append ht hinfo hz hk hby (h.alloc (.cells (ints .i64 r).toArray e)) hs' (by omega) (by simp; omega) rfl
  refine ⟨A', c', w', h1, h2, ⟨h3.os, h3.tape, h3.output, ?_, fun b hb => ?_⟩, fun b hb hne => ?_, fun g' e' => ?_⟩
  · have := h3.size; simp at this; omega
  · rw [h3.block b hb]; exact Below.heap_alloc w _ b (by omega)
  · rw [h4 b (by simp; omega) hne]; exact Below.heap_alloc w _ b hb
  · rcases h5 g' e' with q | q
    · exact .inl q
    · exact .inr (by simp at q; omega)
section
variable {w0 w w' : World} {A B : Option Addr} {n c m d : Nat} {l : List SegP} {f : List FlagP}
theorem below_kept0 {w0 w w' : World} (h : Below w0.heap.size w0 w) (k : Kept (fun b => b < w0.heap.size) w w') : Below w0.heap.size w0 w' :=
  ⟨k.os.trans h.os, k.tape.trans h.tape, k.output.trans h.output, Nat.le_trans h.size k.size, fun b hb => (k.block b hb).trans (h.block b hb)⟩
end
/-! ### Words of the walk -/
/-- An operation whose run is known. -/
theorem wpList_exec {P : Program} {ops : Array Oper} {rest : List Oper} {o : Oper} {a : Act} {w : World} {Q : Exit → Act → World → Prop} (hgd : Region.wanted o (yielded ops a.tmps) = true) {v : Value} (hr : (execOp a.eval o).run P w = .ok (.value v) w)
    (h : wpList P ops Q rest (a.put o.dst v) w) : wpList P ops Q (o :: rest) a w := by
  refine wpList_step fun K hK => ?_
  rw [if_pos hgd]
  unfold Oper.wp
  rw [hr]
  exact hK _ _ h
theorem wpList_build_e {ops : Array Oper} {rest : List Oper} {o : Oper} {a : Act} {w : World} {Q : Exit → Act → World → Prop} (hgd : Region.wanted o (yielded ops a.tmps) = true) {y : Operand} (x : EvP)
    (ho : o.op = .buildSlice 31 1 #[(0, y)]) (hy : a.eval y = .agg (evC x)) (h : wpList Try.prog ops Q rest (a.put o.dst (.slice (some ⟨w.heap.size, 0, none⟩) 1 1)) (w.alloc (.cells (evC x) 33))) : wpList Try.prog ops Q (o :: rest) a w := by
  refine wpList_step fun K hK => ?_
  rw [if_pos hgd]
  exact wp_build_e x ho hy (hK _ _ h)
theorem exec_load_st {o : Oper} {ρ : Operand → Value} {ww : World} (x : Operand) (ho : o.op = .load 30 x) {g : Nat} (hx : ρ x = .pointer (some ⟨g, 0, none⟩)) {cs : Array Value} (hg : Has ww g cs) (hs : cs.size = 23) :
    (execOp ρ o).run Try.prog ww = .ok (.value (.agg cs)) ww := by
  obtain ⟨t, hg⟩ := hg
  unfold execOp
  simp only [ho, hx, Instr.loadAt, Instr.sureAddr, Sem.run_bind, Sem.run_pure, Result.andThen_ok, run_loadVar_row (P := Try.prog) ww g t 30 cs (0, 0) _ hg Try.underlying30 rfl (by rw [hs]; kernel_rfl)]
/-- The numbers of one event of a slice. -/
theorem evs_num {w : World} {b off n c : Nat} {l : List EvP} (h : Evs w (some ⟨b, off, none⟩) n c l) {i : Nat} (hi : i < n) (x : EvP) (hx : l.getD i EvP.none = x) :
    w.cell? ⟨b, off + i * 11, none⟩ = some (.int .i64 x.id) ∧ w.cell? ⟨b, off + i * 11 + 1, none⟩ = some (.int .i64 x.wk) ∧ w.cell? ⟨b, off + i * 11 + 2, none⟩ = some (.int .i64 x.tm) ∧ w.cell? ⟨b, off + i * 11 + 3, none⟩ = some (.int .i64 x.kd) ∧ w.cell? ⟨b, off + i * 11 + 10, none⟩ = some (.int .i64 x.cd) := by
  subst hx
  exact ⟨h.cell hi (j := 0) (by decide), h.cell hi (j := 1) (by decide), h.cell hi (j := 2) (by decide), h.cell hi (j := 3) (by decide), h.cell hi (j := 10) (by decide)⟩
end Go.Proofs.Ytedkhjbnjkcemaa

namespace Go.Proofs.Ytedkhjbnjkcemaa
open Go.RowKit
set_option linter.unusedVariables false
set_option linter.unusedSimpArgs false
set_option maxRecDepth 20000

/-- The event that is found. -/
def findE (l : List EvP) (id : Int) : EvP := match ixE l id with | some i => l.getD i EvP.none | none => EvP.none
/-- A result that is an event and a bool. -/
theorem evbool_run {fn : Func} {p q : Tmp} (h : fn.results = #[.cell p 33, .tmp q]) (tmps : Array Value) (w : World) (g : Nat) (cs : Array Value) (v : Value) (hp : tmps.getD p undef = .pointer (some ⟨g, 0, none⟩)) (hq : tmps.getD q undef = v) (hg : Has w g cs) (hs : cs.size = 11) :
    (results fn tmps).run Try.prog w = .ok (.tuple #[.agg cs, v]) w := by
  obtain ⟨t, hg⟩ := hg
  have hp' : tmps[p]?.getD undef = .pointer (some ⟨g, 0, none⟩) := by simpa using hp
  have hq' : tmps[q]?.getD undef = v := by simpa using hq
  have hr := run_loadVar_row (P := Try.prog) w g t 33 cs (0, 0) _ hg Try.underlying33 rfl (by rw [hs]; kernel_rfl)
  simp [results, h, hp', hq', asAddr, hr]
theorem bel_setRow {a w : World} (h : Below a.heap.size a w) {g : Nat} (hg : a.heap.size ≤ g) (cs : Array Value) : Below a.heap.size a (w.setRow g cs) := by
  refine ⟨h.os, h.tape, h.output, ?_, fun b hb => ?_⟩
  · have := h.size
    simp [World.setRow]
    exact this
  · rw [setRow_other _ _ _ _ (show b ≠ g by omega)]
    exact h.block b hb
set_option maxHeartbeats 2000000 in
theorem find_any (A : Option Addr) (n c : Nat) (l : List EvP) (id : Int) (w : World) (h : Evs w A n c l) (hn : n ≤ 1000000) :
    Calls Try.prog 12 #[.slice A n c, .int .i64 id] w fun e w' => e = .returned (.tuple #[.agg (evC (findE l id)), .bool (ixE l id).isSome]) ∧ Below w.heap.size w w' := by
  have HT := Lib.hid (show Evs (w.alloc (.cells z11 33)) A n c l from ⟨h.1.alloc _, h.2⟩)
  have HP := Lib.hid (place_any A n c l id (w.alloc (.cells z11 33)) ⟨h.1.alloc _, h.2⟩ hn)
  have hg0 := Has.new w 33 z11 rfl
  have hb0 := bel_alloc (Below.refl w.heap.size w) (.cells z11 33)
  have HG := Lib.hid hg0
  have HB := Lib.hid hb0
  have hlt := hg0.size
  have HL := Lib.hid h.2
  clear h hg0 hb0
  cases hx : ixE l id with
  | none =>
    have e1 : ixZ l id = -1 := by unfold ixZ; rw [hx]
    have e2 : findE l id = EvP.none := by unfold findE; rw [hx]
    rw [e1] at HP
    rw [e2]
    clear hx e1 e2 HT HL
    have HZ := Lib.hid (show z11 = evC EvP.none from rfl)
    go_enter Try.func12, Try.ntmps12
    go_wp2_with fail
    refine HP.out.mono ?_
    rintro e w2 ⟨rfl, hb2⟩
    have HG2 := Lib.hid (HG.out.below hb2)
    have HB2 := Lib.hid (bel_on HB.out hb2)
    clear HG HB HP hb2
    go_wp2_with (first | refine wpList_store_e rfl _ _ rfl w.heap.size (evC EvP.none) rfl rfl z11 HG2.out rfl rfl (evC_one _) ?_ | fail)
    (try simp only [Exit.inBlock, Exit.then])
    refine bodyPost_ret (evbool_run Try.results12 _ _ w.heap.size (evC EvP.none) _ rfl rfl (has_setRow_e HG2.out) rfl) rfl ?_
    exact ⟨rfl, bel_setRow HB2.out (Nat.le_refl _) _⟩
  | some i =>
    obtain ⟨hi, _, _⟩ := ixE_some hx
    rw [HL.out] at hi
    have e1 : ixZ l id = i := by unfold ixZ; rw [hx]
    obtain ⟨y, hy⟩ : ∃ y, l.getD i EvP.none = y := ⟨_, rfl⟩
    have e2 : findE l id = y := by unfold findE; rw [hx, ← hy]
    have HY := Lib.hid hy
    rw [e1] at HP
    rw [e2]
    clear hx e1 e2 hy HL
    go_enter Try.func12, Try.ntmps12
    go_wp2_with fail
    refine HP.out.mono ?_
    rintro e w2 ⟨rfl, hb2⟩
    have HG2 := Lib.hid (HG.out.below hb2)
    have HB2 := Lib.hid (bel_on HB.out hb2)
    have HT2 := HT.out.below hb2
    obtain ⟨b, off, rfl⟩ := HT2.form (by omega)
    have HT3 := Lib.hid HT2
    have hz := cell_lt (HT2.cell hi (j := 0) (by omega))
    have hi0 : (0 : Int) ≤ (i : Int) := by omega
    clear HG HB HP hb2 HT HT2
    go_wp2_with (first | refine wpList_load_ev HT3.out hi HY.out rfl _ rfl rfl ?_ | refine wpList_store_e rfl _ _ rfl w.heap.size (evC y) rfl rfl z11 HG2.out rfl rfl (evC_one _) ?_ | fail)
    (try simp only [Exit.inBlock, Exit.then])
    refine bodyPost_ret (evbool_run Try.results12 _ _ w.heap.size (evC y) _ rfl rfl (has_setRow_e HG2.out) rfl) rfl ?_
    exact ⟨rfl, bel_setRow HB2.out (Nat.le_refl _) _⟩
set_option maxHeartbeats 2000000 in
theorem rfind_any (A : Option Addr) (n c : Nat) (l : List EvP) (id : Int) (w : World) (h : Evs w A n c l) (hn : n ≤ 1000000) :
    Calls Try.prog 13 #[.slice A n c, .int .i64 id] w fun e w' => e = .returned (.tuple #[.agg (evC (findE l id)), .bool (ixE l id).isSome]) ∧ Below w.heap.size w w' := by
  have HT := Lib.hid (show Evs (w.alloc (.cells z11 33)) A n c l from ⟨h.1.alloc _, h.2⟩)
  have HP := Lib.hid (sameB (rat13_any A n c l id (w.alloc (.cells z11 33)) ⟨h.1.alloc _, h.2⟩ hn))
  have hg0 := Has.new w 33 z11 rfl
  have hb0 := bel_alloc (Below.refl w.heap.size w) (.cells z11 33)
  have HG := Lib.hid hg0
  have HB := Lib.hid hb0
  have hlt := hg0.size
  have HL := Lib.hid h.2
  clear h hg0 hb0
  cases hx : ixE l id with
  | none =>
    have e1 : ixZ l id = -1 := by unfold ixZ; rw [hx]
    have e2 : findE l id = EvP.none := by unfold findE; rw [hx]
    rw [e1] at HP
    rw [e2]
    clear hx e1 e2 HT HL
    have HZ := Lib.hid (show z11 = evC EvP.none from rfl)
    go_enter Try.func13, Try.ntmps13
    go_wp2_with fail
    refine HP.out.mono ?_
    rintro e w2 ⟨rfl, hb2⟩
    have HG2 := Lib.hid (HG.out.below hb2)
    have HB2 := Lib.hid (bel_on HB.out hb2)
    clear HG HB HP hb2
    go_wp2_with (first | refine wpList_store_e rfl _ _ rfl w.heap.size (evC EvP.none) rfl rfl z11 HG2.out rfl rfl (evC_one _) ?_ | fail)
    (try simp only [Exit.inBlock, Exit.then])
    refine bodyPost_ret (evbool_run Try.results13 _ _ w.heap.size (evC EvP.none) _ rfl rfl (has_setRow_e HG2.out) rfl) rfl ?_
    exact ⟨rfl, bel_setRow HB2.out (Nat.le_refl _) _⟩
  | some i =>
    obtain ⟨hi, _, _⟩ := ixE_some hx
    rw [HL.out] at hi
    have e1 : ixZ l id = i := by unfold ixZ; rw [hx]
    obtain ⟨y, hy⟩ : ∃ y, l.getD i EvP.none = y := ⟨_, rfl⟩
    have e2 : findE l id = y := by unfold findE; rw [hx, ← hy]
    have HY := Lib.hid hy
    rw [e1] at HP
    rw [e2]
    clear hx e1 e2 hy HL
    go_enter Try.func13, Try.ntmps13
    go_wp2_with fail
    refine HP.out.mono ?_
    rintro e w2 ⟨rfl, hb2⟩
    have HG2 := Lib.hid (HG.out.below hb2)
    have HB2 := Lib.hid (bel_on HB.out hb2)
    have HT2 := HT.out.below hb2
    obtain ⟨b, off, rfl⟩ := HT2.form (by omega)
    have HT3 := Lib.hid HT2
    have hz := cell_lt (HT2.cell hi (j := 0) (by omega))
    have hi0 : (0 : Int) ≤ (i : Int) := by omega
    clear HG HB HP hb2 HT HT2
    go_wp2_with (first | refine wpList_load_ev HT3.out hi HY.out rfl _ rfl rfl ?_ | refine wpList_store_e rfl _ _ rfl w.heap.size (evC y) rfl rfl z11 HG2.out rfl rfl (evC_one _) ?_ | fail)
    (try simp only [Exit.inBlock, Exit.then])
    refine bodyPost_ret (evbool_run Try.results13 _ _ w.heap.size (evC y) _ rfl rfl (has_setRow_e HG2.out) rfl) rfl ?_
    exact ⟨rfl, bel_setRow HB2.out (Nat.le_refl _) _⟩
end Go.Proofs.Ytedkhjbnjkcemaa
