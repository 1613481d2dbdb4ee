/-
  Slices of bytes of the call's own: append, store, cut.
-/
import Derived.Test.YtdhkfhgggkndoaaProg
import Derived.Test.YtdhkfhgggkndoaaByts
import Derived.Test.YtdhkfhgggkndoaaOrders
namespace Go.Proofs.Ytdhkfhgggkndoaa
open Go.RowKit
set_option linter.unusedVariables false

theorem by_add_none {b off n : Nat} : (⟨b, off, none⟩ : Addr).add n = ⟨b, off + n, none⟩ := by unfold Addr.add; split <;> simp_all

/-- A slice of the call's own, that lies at 'base' or behind, and holds the bytes xs. -/
def BRow (w : World) (base : Nat) (A : Option Addr) (c : Nat) (xs : List (BitVec 8)) : Prop :=
  w.ownsRow base 5 1 (.slice A xs.length c) xs.length (bytesV xs)
section
variable {w w' : World} {base c : Nat} {A : Option Addr} {xs : List (BitVec 8)}
theorem BRow.nil (w : World) (base : Nat) : BRow w base none 0 [] := World.ownsRow_nil w base _ _
theorem BRow.keep (h : BRow w base A c xs) (hk : ∀ g, A = some g → w'.heap[g.block]? = w.heap[g.block]?) : BRow w' base A c xs := by
  obtain ⟨hl, hn | ⟨g, cap, cur, hv, hg, hh, rest⟩⟩ := h
  · exact ⟨hl, .inl hn⟩
  · injection hv with e1 e2 e3
    subst e1
    exact ⟨hl, .inr ⟨g, cap, cur, by rw [e3], hg, (hk _ rfl).trans hh, rest⟩⟩
theorem BRow.lt (h : BRow w base A c xs) : ∀ g, A = some g → base ≤ g.block ∧ g.block < w.heap.size := by
  rintro g rfl
  exact World.ownsRow.lt h _ rfl
theorem BRow.below (h : BRow w base A c xs) (hb : Below w.heap.size w w') : BRow w' base A c xs :=
  h.keep fun g hg => hb.block _ (h.lt g hg).2
theorem BRow.alloc (h : BRow w base A c xs) (o : Obj) : BRow (w.alloc o) base A c xs := World.ownsRow.alloc h o
theorem BRow.drewN (h : BRow w base A c xs) (n : Nat) : BRow (w.drewN n) base A c xs := h
theorem BRow.drew (h : BRow w base A c xs) : BRow w.drew base A c xs := h
theorem BRow.mono (h : BRow w base A c xs) {b : Nat} (hb : b ≤ base) : BRow w b A c xs := by
  obtain ⟨hl, hn | ⟨g, cap, cur, hv, hg, rest⟩⟩ := h
  · exact ⟨hl, .inl hn⟩
  · exact ⟨hl, .inr ⟨g, cap, cur, hv, by omega, rest⟩⟩
theorem BRow.forms (h : BRow w base A c xs) : (A = none ∧ xs = [] ∧ c = 0) ∨ ∃ g, A = some ⟨g, 0, none⟩ ∧ base ≤ g ∧ g < w.heap.size ∧ xs.length ≤ c ∧ c ≤ maxLen := by
  have hlt := h.lt
  obtain ⟨hl, ⟨hv, hz⟩ | ⟨g, cap, cur, hv, hb, hh, hc, hm, _⟩⟩ := h
  · injection hv with e1 e2 e3
    exact .inl ⟨e1, List.eq_nil_of_length_eq_zero hz, e3⟩
  · injection hv with e1 e2 e3
    subst e1 e3
    exact .inr ⟨g, rfl, hb, (hlt _ rfl).2, hc, hm⟩
theorem BRow.form (h : BRow w base A c xs) (hn : xs ≠ []) : ∃ g, A = some ⟨g, 0, none⟩ := by
  rcases h.forms with ⟨_, e, _⟩ | ⟨g, e, _⟩
  · exact absurd e hn
  · exact ⟨g, e⟩
theorem BRow.sl (h : BRow w base A c xs) : Sl 1 w A xs.length c (bytesV xs) := Sl.of_own h
theorem BRow.byts (h : BRow w base A c xs) : Byts w A xs := byts_of_sl h.sl
theorem BRow.cellAt {g : Nat} (h : BRow w base (some ⟨g, 0, none⟩) c xs) {k : Nat} (hk : k < xs.length) : w.cell? ⟨g, k, none⟩ = some (v8 (xs.getD k 0#8)) := by
  rw [World.ownsRow.cellAt h k (by omega)]
  simp [bytesV, List.getD, hk]
theorem BRow.frozenAt {g : Nat} (h : BRow w base (some ⟨g, 0, none⟩) c xs) (j : Nat) : w.frozen? ⟨g, j, none⟩ = false := World.ownsRow.frozenAt h j
theorem BRow.set {g : Nat} (h : BRow w base (some ⟨g, 0, none⟩) c xs) {k : Nat} (hk : k < xs.length) (x : BitVec 8) : BRow (w.setCell ⟨g, k, none⟩ (v8 x)) base (some ⟨g, 0, none⟩) c (xs.set k x) := by
  have := (World.ownsRow.stored h k (v8 x)).1
  unfold BRow
  rw [List.length_set]
  have e : bytesV (xs.set k x) = (bytesV xs).set k (v8 x) := by simp [bytesV, List.map_set]
  rw [e]
  exact this
end

theorem BRow.cap_le {w : World} {base c : Nat} {A : Option Addr} {xs : List (BitVec 8)} (h : BRow w base A c xs) {n : Nat} (hn : xs.length = n) : n ≤ c := by
  subst hn
  rcases h.forms with ⟨_, rfl, _⟩ | ⟨g, _, _, _, h, _⟩
  · simp
  · exact h
theorem BRow.slAt {w : World} {base c : Nat} {A : Option Addr} {xs : List (BitVec 8)} (h : BRow w base A c xs) {n : Nat} (hn : xs.length = n) : Sl 1 w A n c (bytesV xs) := by
  subst hn
  exact h.sl
theorem u8_info : (Try.prog.info? 5).map (fun i => (i.zero, i.size, i.bytes)) = some (some (.int .u8 0), 1, 1) := by kernel_rfl

/-- An append of what a slice holds. -/
theorem brow_append {w : World} {base c : Nat} {A : Option Addr} {xs : List (BitVec 8)} (h : BRow w base A c xs) {B : Option Addr} {d : Nat} {ys : List (BitVec 8)} (hs : Sl 1 w B ys.length d (bytesV ys)) (hn : xs.length + ys.length ≤ 100000000000000) (hbase : base ≤ w.heap.size) :
    ∃ A' c' w', (Builtin.append_ #[31, 31] 31 #[.slice A xs.length c, .slice B ys.length d]).run Try.prog w = .ok (.slice A' (xs.length + ys.length) c') w' ∧ BRow w' base A' c' (xs ++ ys) ∧
      (∀ a : World, a.heap.size ≤ base → Below a.heap.size a w → Below a.heap.size a w') ∧ w.grownBy w' (Value.slice A xs.length c).ownBlock ∧ ((Value.slice A' (xs.length + ys.length) c').ownBlock = (Value.slice A xs.length c).ownBlock ∨ (Value.slice A' (xs.length + ys.length) c').ownBlock = some w.heap.size) := by
  obtain ⟨A', c', w', hr, ho, hg, hl⟩ := append_any (P := Try.prog) w base 31 31 5 _ 1 1 Try.underlying31 u8_info rfl (by omega) h hs (bytesV_one ys) (xs.length + ys.length) rfl (bytesV (xs ++ ys)) (by simp [bytesV]) (by omega) (by omega) hbase
  refine ⟨A', c', w', hr, ?_, fun a ha hb => bel_grown hb h ha hg, hg, hl⟩
  unfold BRow
  rw [List.length_append]
  exact ho
/-- A new slice of one byte, made for an append. -/
theorem sl_byte (w : World) (t : TypeId) (x : BitVec 8) {s : Nat} (hs : w.heap.size = s) : Sl 1 (w.alloc (.cells #[v8 x] t)) (some ⟨s, 0, none⟩) [x].length 1 (bytesV [x]) := by
  subst hs
  refine ⟨rfl, .inr ⟨_, rfl, fun j u hu => ?_⟩⟩
  rw [by_add_none, Nat.zero_add, cell_of_row _ _ _ _ t (0, 0) (heap_alloc_new w _)]
  simpa [bytesV] using hu
theorem brow_push {w : World} {base c : Nat} {A : Option Addr} {xs : List (BitVec 8)} (h : BRow w base A c xs) (x : BitVec 8) (hn : xs.length < 100000000000000) (hbase : base ≤ w.heap.size) {s : Nat} (hs : w.heap.size = s) :
    ∃ A' c' w', (Builtin.append_ #[31, 31] 31 #[.slice A xs.length c, .slice (some ⟨s, 0, none⟩) 1 1]).run Try.prog (w.alloc (.cells #[v8 x] 5)) = .ok (.slice A' (xs.length + 1) c') w' ∧ BRow w' base A' c' (xs ++ [x]) ∧
      (∀ v : World, v.heap.size ≤ base → Below v.heap.size v w → Below v.heap.size v w') ∧ w.heap.size ≤ w'.heap.size := by
  obtain ⟨A', c', w', h1, h2, h3, h4, h5⟩ := brow_append (h.alloc (.cells #[v8 x] 5)) (ys := [x]) (sl_byte w 5 x hs) (by simp; omega) (by simp; omega)
  exact ⟨A', c', w', h1, h2, fun v hv hb => h3 v hv (hb.alloc hb.size _), by have := h4.size; simp at this; omega⟩
/-- In a drawn region: an append whose run is known. -/
theorem wp_append_run {P : Program} {o : Oper} {a : Act} {w w' : World} {K : Act → World → Prop} {Q : Exit → Act → World → Prop} {s x : Operand} {t : TypeId} {v u v' : Value}
    (hr : (Builtin.append_ #[t, t] o.type #[v, u]).run P w = .ok v' w')
    (ho : o.op = .call { callee := .builtin .append, args := #[s, x], argTypes := #[t, t] }) (hs : a.eval s = v) (hx : a.eval x = u)
    (h : K (a.put o.dst v') w') : o.wp P a w K Q := by
  unfold Oper.wp execOp
  simp only [ho, resolve, invoke, builtin, Sem.run_bind, Sem.run_pure, Result.andThen_ok, List.map_toArray, List.map_cons, List.map_nil, hs, hx, hr]
  exact h
end Go.Proofs.Ytdhkfhgggkndoaa
