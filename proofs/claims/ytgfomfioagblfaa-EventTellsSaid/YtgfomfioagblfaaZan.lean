/-
  Rows of events of the call's own (append), slices of events cut; where an event is put in.
  An argument of type []api.Event, opened.
-/
import Derived.Test.YtgfomfioagblfaaZak
import Derived.Test.YtgfomfioagblfaaZam
import Derived.Test.YtgfomfioagblfaaProg
import Derived.Test.YtgfomfioagblfaaZah
namespace Go.Proofs.Ytgfomfioagblfaa
open Go.RowKit Go.Sort
set_option linter.unusedVariables false
set_option linter.unusedSimpArgs false
set_option maxRecDepth 20000

theorem risen_at {l : List EvP} (h : Risen l) {i j : Nat} (hij : i < j) (hj : j < l.length) : lessE (l.getD j EvP.none) (l.getD i EvP.none) = false := by
  have e : l = l.take j ++ l.drop j := (List.take_append_drop j l).symm
  rw [e] at h
  obtain ⟨_, _, h3⟩ := (risen_append _ _).1 h
  refine h3 _ ?_ _ ?_
  · rw [List.getD_eq_getElem?_getD, List.getElem?_eq_getElem (by omega), Option.getD_some]
    exact List.mem_take_iff_getElem.2 ⟨i, by omega, rfl⟩
  · rw [List.getD_eq_getElem?_getD, List.getElem?_eq_getElem hj, Option.getD_some]
    exact List.mem_drop_iff_getElem.2 ⟨0, by omega, by simp⟩
/-- Where an event is put in. -/
theorem ins_place {out : List EvP} (hr : Risen out) (x : EvP) (k : Nat) (hk : k ≤ out.length) (h1 : ∀ j, k ≤ j → j < out.length → lessE x (out.getD j EvP.none) = true) (h2 : k = 0 ∨ lessE x (out.getD (k - 1) EvP.none) = false) :
    insE out x = out.take k ++ (x :: out.drop k) := by
  have a1 : ∀ y ∈ out.take k, lessE x y = false := by
    intro y hy
    obtain ⟨j, hj, rfl⟩ := List.mem_take_iff_getElem.1 hy
    have hjk : j < k := by omega
    have hjl : j < out.length := by omega
    rcases h2 with h2 | h2
    · omega
    · by_cases e : j = k - 1
      · subst e
        rwa [List.getD_eq_getElem?_getD, List.getElem?_eq_getElem hjl, Option.getD_some] at h2
      · have q := risen_at hr (show j < k - 1 by omega) (by omega)
        have := ev_less_not h2 q
        rwa [List.getD_eq_getElem?_getD, List.getElem?_eq_getElem hjl, Option.getD_some] at this
  have a2 : ∀ y ∈ out.drop k, lessE x y = true := by
    intro y hy
    obtain ⟨j, hj, rfl⟩ := List.mem_drop_iff_getElem.1 hy
    have := h1 (k + j) (by omega) (by omega)
    rwa [List.getD_eq_getElem?_getD, List.getElem?_eq_getElem (by omega), Option.getD_some] at this
  have e : out = out.take k ++ out.drop k := (List.take_append_drop k out).symm
  have f1 : out.filter (fun y => !lessE x y) = out.take k := by
    conv => lhs; rw [e]
    rw [List.filter_append, List.filter_eq_self.2 (fun y hy => by rw [a1 y hy]; rfl), List.filter_eq_nil_iff.2 (fun y hy => by rw [a2 y hy]; simp), List.append_nil]
  have f2 : out.filter (fun y => lessE x y) = out.drop k := by
    conv => lhs; rw [e]
    rw [List.filter_append, List.filter_eq_self.2 (fun y hy => a2 y hy), List.filter_eq_nil_iff.2 (fun y hy => by rw [a1 y hy]; simp), List.nil_append]
  rw [insE, f1, f2]
theorem sortE_snoc (l : List EvP) (x : EvP) : sortE (l ++ [x]) = insE (sortE l) x := by simp [sortE, List.foldl_append]
theorem sortE_length (l : List EvP) : (sortE l).length = l.length := (ev_sort_perm l).length_eq
/-! ### Slices cut -/
theorem ev_size (w : World) : (sizeOf (Try.prog.elem 31)).run Try.prog w = .ok 11 w := by kernel_rfl
theorem evs_len {l : List EvP} : (ints .i64 (l.map evLs).flatten).length = l.length * 11 := by
  have := rows_len (l.map evLs) (evs_wide l)
  rw [List.length_map] at this
  rw [ints, List.length_map, this, Nat.mul_comm]
theorem evs_take {l : List EvP} (k : Nat) : (ints .i64 ((l.take k).map evLs).flatten) = (ints .i64 (l.map evLs).flatten).take (k * 11) := by
  apply List.ext_getElem?
  intro t
  by_cases h : t < (l.take k).length * 11
  · have hk : t < k * 11 ∧ t < l.length * 11 := by rw [List.length_take] at h; omega
    rw [evs_cell _ h, List.getElem?_take, if_pos hk.1, evs_cell _ hk.2]
    have e : (l.take k).getD (t / 11) EvP.none = l.getD (t / 11) EvP.none := by
      rw [List.getD_eq_getElem?_getD, List.getElem?_take, if_pos (by omega), ← List.getD_eq_getElem?_getD]
    rw [e]
  · rw [List.getElem?_eq_none (by rw [evs_len]; omega), List.getElem?_take]
    split
    · rw [List.getElem?_eq_none (by rw [evs_len]; rw [List.length_take] at h; omega)]
    · rfl
theorem evs_drop {l : List EvP} (k : Nat) : (ints .i64 ((l.drop k).map evLs).flatten) = (ints .i64 (l.map evLs).flatten).drop (k * 11) := by
  apply List.ext_getElem?
  intro t
  rw [List.getElem?_drop]
  by_cases h : t < (l.drop k).length * 11
  · have hk : k * 11 + t < l.length * 11 := by rw [List.length_drop] at h; omega
    rw [evs_cell _ h, evs_cell _ hk, show (k * 11 + t) / 11 = k + t / 11 by omega, show (k * 11 + t) % 11 = t % 11 by omega]
    have e : (l.drop k).getD (t / 11) EvP.none = l.getD (k + t / 11) EvP.none := by
      rw [List.getD_eq_getElem?_getD, List.getElem?_drop, ← List.getD_eq_getElem?_getD]
    rw [e]
  · rw [List.getElem?_eq_none (by rw [evs_len]; omega), List.getElem?_eq_none (by rw [evs_len]; rw [List.length_drop] at h; omega)]
theorem evcut_from {w : World} {A : Option Addr} {m c : Nat} {l : List EvP} (h : Evs w A m c l) (hmc : m ≤ c) (n : Nat) (hn : n ≤ m) :
    ∃ A', (∀ w', (Instr.sliceAt 31 (.slice A m c) (some (.int .i64 (n : Int))) none none).run Try.prog w' = .ok (.slice A' (m - n) (c - n)) w') ∧ Evs w A' (m - n) (c - n) (l.drop n) := by
  have hl := h.2
  have hrun : ∀ w', (Instr.sliceAt 31 (.slice A m c) (some (.int .i64 (n : Int))) none none).run Try.prog w' = .ok (.slice (if c = n then A else A.map (·.add (n * 11))) (m - n) (c - n)) w' := by
    intro w'
    rw [run_sliceAt_slice _ _ _ _ _ _ Try.underlying31, run_slice_l _ _ _ _ _ Try.underlying31 .i64 (n : Int) (by omega) (by omega), ev_size]
    simp [sliced, Result.andThen]
  refine ⟨_, hrun, ?_, by rw [List.length_drop]; omega⟩
  obtain ⟨⟨hl', ⟨rfl, rfl, rfl⟩ | ⟨ad, rfl, hc⟩⟩, _⟩ := h
  · obtain rfl : n = 0 := by omega
    exact ⟨by rw [evs_len, List.length_drop]; omega, .inl ⟨by simp, rfl, rfl⟩⟩
  · refine ⟨by rw [evs_len, List.length_drop]; omega, .inr ?_⟩
    by_cases h0 : m - n = 0
    · have e : l.drop n = [] := List.drop_of_length_le (by omega)
      by_cases hcn : c = n
      · rw [if_pos hcn, e]; exact ⟨ad, rfl, fun j u hu => by simp [ints] at hu⟩
      · rw [if_neg hcn, e]; exact ⟨_, rfl, fun j u hu => by simp [ints] at hu⟩
    · rw [if_neg (by omega)]
      obtain ⟨b, off, e⟩ := (show Evs w (some ad) m c l from ⟨⟨hl', .inr ⟨ad, rfl, hc⟩⟩, hl⟩).form (by omega)
      injection e with e
      subst e
      refine ⟨_, rfl, fun j u hu => ?_⟩
      rw [evs_drop, List.getElem?_drop] at hu
      have := hc (n * 11 + j) u hu
      rw [tab_add] at this
      show w.cell? (((⟨b, off, none⟩ : Addr).add (n * 11)).add j) = some u
      rw [tab_add, tab_add, Nat.add_assoc]
      exact this
theorem evcut_to {w : World} {A : Option Addr} {m c : Nat} {l : List EvP} (h : Evs w A m c l) (hmc : m ≤ c) (n : Nat) (hn : n ≤ m) :
    ∃ A', (∀ w', (Instr.sliceAt 31 (.slice A m c) none (some (.int .i64 (n : Int))) none).run Try.prog w' = .ok (.slice A' n c) w') ∧ Evs w A' n c (l.take n) := by
  have hl := h.2
  have hrun : ∀ w', (Instr.sliceAt 31 (.slice A m c) none (some (.int .i64 (n : Int))) none).run Try.prog w' = .ok (.slice (if c = 0 then A else A.map (·.add 0)) n c) w' := by
    intro w'
    rw [run_sliceAt_slice _ _ _ _ _ _ Try.underlying31, run_slice_h _ _ _ _ _ Try.underlying31 .i64 (n : Int) (by omega) (by omega), ev_size]
    simp [sliced, Result.andThen]
  refine ⟨_, hrun, ?_, by rw [List.length_take]; omega⟩
  have e : (if c = 0 then A else A.map (·.add 0)) = A := by
    split
    · rfl
    · cases A with
      | none => rfl
      | some ad =>
        rw [Option.map_some]
        unfold Addr.add
        split <;> simp_all
  rw [e]
  obtain ⟨⟨hl', ⟨rfl, rfl, rfl⟩ | ⟨ad, rfl, hc⟩⟩, _⟩ := h
  · obtain rfl : n = 0 := by omega
    exact ⟨by rw [evs_len]; simp, .inl ⟨rfl, rfl, rfl⟩⟩
  · refine ⟨by rw [evs_len, List.length_take]; omega, .inr ⟨ad, rfl, fun j u hu => hc j u ?_⟩⟩
    rw [evs_take, List.getElem?_take] at hu
    split at hu
    · exact hu
    · cases hu
/-! ### Rows -/
abbrev ERow (w : World) (base : Nat) (A : Option Addr) (n c : Nat) (l : List EvP) : Prop := TRow 33 11 w base A n c (l.map evLs)
theorem ERow.evs {w : World} {base : Nat} {A : Option Addr} {n c : Nat} {l : List EvP} (h : ERow w base A n c l) (hn : l.length = n) : Evs w A n c l := ⟨Sl.of_own h, hn⟩
theorem erow_mono {w : World} {base b : Nat} {A : Option Addr} {n c : Nat} {l : List EvP} (h : ERow w base A n c l) (hb : b ≤ base) : ERow w b A n c l := by
  obtain ⟨hl, hn | ⟨g, cap, cur, hv, hg, rest⟩⟩ := h
  · exact ⟨hl, .inl hn⟩
  · exact ⟨hl, .inr ⟨g, cap, cur, hv, by omega, rest⟩⟩
theorem erow_empty (w : World) : ERow (w.alloc (.cells #[] 33)) w.heap.size (some ⟨w.heap.size, 0, none⟩) 0 0 [] := own_new w 33 11 0 #[] rfl (by decide)
/-- One event, laid for an append. -/
theorem evs_one (w : World) (x : EvP) : Evs (w.alloc (.cells (evC x) 33)) (some ⟨w.heap.size, 0, none⟩) 1 1 [x] := by
  have := own_new w 33 11 1 (evC x) rfl (by decide)
  refine ⟨?_, rfl⟩
  have h := Sl.of_own this
  have e : (evC x).toList = ints .i64 ([x].map evLs).flatten := rfl
  rw [← e]
  exact h
/-- An append of what a slice of events holds. -/
theorem erow_append {w : World} {base c : Nat} {A : Option Addr} {n : Nat} {l : List EvP} (h : ERow w base A n c l) {B : Option Addr} {m d : Nat} {l' : List EvP} (hs : Evs w B m d l') (hm : n + m ≤ 100000) (hbase : base ≤ w.heap.size) {k : Nat} (hk : n + m = k) :
    ∃ A' c' w', (Builtin.append_ #[31, 31] 31 #[.slice A n c, .slice B m d]).run Try.prog w = .ok (.slice A' k c') w' ∧ ERow w' base A' k c' (l ++ l') ∧
      (∀ a : World, a.heap.size ≤ base → Below a.heap.size a w → Below a.heap.size a w') ∧ (∀ b, b < w.heap.size → (∀ g, A = some g → b ≠ g.block) → w'.heap[b]? = w.heap[b]?) := by
  subst hk
  obtain ⟨A', c', w', hr, ho, hg, hl⟩ := append_any (P := Try.prog) w base 31 31 33 _ 11 88 Try.underlying31 ev_info rfl (by omega) h hs.1 (ints_one .i64 _) (n + m) rfl (ints .i64 ((l ++ l').map evLs).flatten) (by simp [ints]) (by omega) (by omega) hbase
  refine ⟨A', c', w', hr, ho, fun a ha hb => bel_grown hb h ha hg, fun b hb hne => ?_⟩
  obtain ⟨_, _, _, _, q⟩ := hg
  refine q b hb (fun e => ?_)
  rcases h.2 with ⟨hv, _⟩ | ⟨g, cap, cur, hv, _⟩
  · injection hv with e1 e2 e3
    subst e1
    simp [Value.ownBlock] at e
  · injection hv with e1 e2 e3
    subst e1
    have e' : some g = some b := e.symm
    injection e' with e'
    exact hne _ rfl e'.symm
theorem wp_append_run8 {P : Program} {o : Oper} {a : Act} {w w' : World} {K : Act → World → Prop} {Q : Exit → Act → World → Prop} {s x : Operand} {t : TypeId} {v u v' : Value}
    (hr : (Builtin.append_ #[t, t] o.type #[v, u]).run P w = .ok v' w')
    (ho : o.op = .call { callee := .builtin .append, args := #[s, x], argTypes := #[t, t] }) (hs : a.eval s = v) (hx : a.eval x = u)
    (h : K (a.put o.dst v') w') : o.wp P a w K Q := by
  unfold Oper.wp execOp
  simp only [ho, resolve, invoke, builtin, Sem.run_bind, Sem.run_pure, Result.andThen_ok, List.map_toArray, List.map_cons, List.map_nil, hs, hx, hr]
  exact h
theorem wp_build_e {o : Oper} {a : Act} {w : World} {K : Act → World → Prop} {Q : Exit → Act → World → Prop} {y : Operand} (x : EvP)
    (ho : o.op = .buildSlice 31 1 #[(0, y)]) (hy : a.eval y = .agg (evC x)) (h : K (a.put o.dst (.slice (some ⟨w.heap.size, 0, none⟩) 1 1)) (w.alloc (.cells (evC x) 33))) : o.wp Try.prog a w K Q := by
  obtain ⟨a1, a2, a3', a4, a5, a6, a7, a8, a9, a10, a11⟩ := x
  simp only [evC] at hy h
  unfold Oper.wp execOp
  simp only [ho, List.map_toArray, List.map_cons, List.map_nil, hy]
  go_simp
  exact h
theorem erow_caps {w : World} {base : Nat} {A : Option Addr} {n c : Nat} {l : List EvP} (h : ERow w base A n c l) : n ≤ c ∧ c ≤ 9223372036854775807 := by
  obtain ⟨hl, ⟨hv, hz⟩ | ⟨g, cap, cur, hv, hb, hh, hc, hm, _⟩⟩ := h
  · injection hv with e1 e2 e3
    omega
  · injection hv with e1 e2 e3
    simp only [maxLen] at hm
    omega
theorem Evs.keep {w w' : World} {A : Option Addr} {n c : Nat} {l : List EvP} (h : Evs w A n c l) (hk : ∀ g, A = some g → w'.heap[g.block]? = w.heap[g.block]?) : Evs w' A n c l := by
  obtain ⟨⟨hl, h0 | ⟨ad, rfl, hc⟩⟩, hn⟩ := h
  · exact ⟨⟨hl, .inl h0⟩, hn⟩
  · refine ⟨⟨hl, .inr ⟨ad, rfl, fun j u hu => ?_⟩⟩, hn⟩
    rw [← hc j u hu]
    have e := hk _ rfl
    unfold World.cell?
    rw [show (ad.add j).block = ad.block by unfold Addr.add; split <;> rfl, e]
end Go.Proofs.Ytgfomfioagblfaa

namespace Go.Proofs.Ytgfomfioagblfaa
open Go.RowKit Go.Deep Go.WideShapes
set_option linter.unusedVariables false
set_option maxRecDepth 20000

/-- Rows of eleven numbers are events. -/
theorem evs_of_rows : ∀ (t : Rows2), (∀ r ∈ t, r.length = 11) → (∀ r ∈ t, ∀ z ∈ r, In64 z) → ∃ l : List EvP, l.map evLs = t ∧ ∀ e ∈ l, e.In
  | [], _, _ => ⟨[], rfl, fun e h => by simp at h⟩
  | r :: t, h1, h2 => by
    obtain ⟨l, hl, hi⟩ := evs_of_rows t (fun q hq => h1 q (by simp [hq])) (fun q hq => h2 q (by simp [hq]))
    obtain ⟨e, he, hin⟩ := ev_of_list (h1 r (by simp)) (h2 r (by simp))
    exact ⟨e :: l, by simp [he, hl], fun x hx => by
      rcases List.mem_cons.1 hx with rfl | hx
      · exact hin
      · exact hi x hx⟩
theorem events_open {H : Type} {enc : TypeId × Value → H} {w : World} {base : Nat} {held : Bool} {fuel : Nat} {cs : List Value} {x : DataW H × List MemPlace}
    (h : DataW.trod enc Try.prog w base (fun _ => true) held fuel 31 cs = some x) : ∃ A n c l, cs = [.slice A n c] ∧ Evs w A n c l ∧ (∀ e ∈ l, e.In) ∧ n ≤ c ∧ c ≤ 9223372036854775807 := by
  obtain ⟨A, n, c, rows, hcs, T⟩ := open_tab Try.underlying31 numsT_event (by kernel_rfl) (by omega) h
  obtain ⟨l, hl, hi⟩ := evs_of_rows rows T.wide T.small
  refine ⟨A, n, c, l, hcs, ⟨by rw [hl]; exact T.sl, ?_⟩, hi, T.cap, T.max⟩
  rw [← T.len, ← hl, List.length_map]
end Go.Proofs.Ytgfomfioagblfaa
