/-
  Keys of weeks: their cells, slices of them, and a map by keys that the call has made.
  Slices of keys cut; rows of keys, with more appended.
-/
import Derived.Test.YtedkhjbnjkcemaaProg
import Derived.Test.YtedkhjbnjkcemaaZac
import Derived.Test.YtedkhjbnjkcemaaZad
import Derived.Test.YtedkhjbnjkcemaaZaq
import Derived.Maps.OwnSet
import Derived.Maps.RangeWalk
import Derived.DeepKeys4
import Derived.ChangeKeysEq
import Derived.KernelRfl
namespace Go.Proofs.Ytedkhjbnjkcemaa
open Go.RowKit
set_option linter.unusedVariables false
set_option linter.unusedSimpArgs false
set_option maxRecDepth 20000

def kyC (q : KeyP) : Array Value := #[.int .i64 q.k, .int .i64 q.n]
def kyV (q : KeyP) : Value := .agg (kyC q)
theorem ky_laidOut : laidOutB Try.prog = true := by kernel_rfl
theorem ky_row : (56 : TypeId) < Try.prog.types.size := of_decide_eq_true (by kernel_rfl)
theorem ky_wide : (match Try.prog.underlying 56 with | some (.array _ _) | some (.struct _) => true | _ => false) = true := by kernel_rfl
theorem ky_keyed : Maps.Keyed Try.prog 56 := Maps.Keyed.of_law (deep_law_laid ky_laidOut (m := 2) (by omega) ky_row (by kernel_rfl) ky_wide)
/-- What a key reads as in a map. -/
def kyT (q : KeyP) : Lit := .string (keyBytes [.int .i64 q.k, .int .i64 q.n])
theorem ky_deep : Try.prog.keyType 56 = true := by kernel_rfl
theorem ky_cells : Try.prog.cellsOf 56 = 2 := by kernel_rfl
theorem ky_cells3 : Try.prog.cellsOf 3 = 1 := by kernel_rfl
theorem in_wf {x : Int} : (Lit.int .i64 x).wf = true ↔ (-9223372036854775808 ≤ x ∧ x ≤ 9223372036854775807) := by
  simp [Lit.wf, IntKind.min, IntKind.max, IntKind.bits, IntKind.signed]
section
variable {P : Program} {t e : TypeId} {f1 f2 : Field}
theorem key_of_gen (hu : P.underlying t = some (.struct #[f1, f2])) (he : P.underlying e = some (.int .i64)) (h1 : f1.type = e) (h2 : f2.type = e) (o1 : f1.offset = 0) (o2 : f2.offset = 1) (n1 : (f1.name != "_") = true) (n2 : (f2.name != "_") = true)
    (hk : P.keyType t = true) (hc : P.cellsOf t = 2) (hce : P.cellsOf e = 1) {m : Nat} (hm : P.types.size = m + 1) {q : KeyP} (h : q.In) : keyOf P t (kyV q) = some (kyT q) := by
  have w1 := in_wf.2 h.1
  have w2 := in_wf.2 h.2
  simp only [bne_iff_ne, ne_eq] at n1 n2
  simp [keyOf, hu, hk, kyV, kyC, Value.formed, hc, hm, Program.keyLits, Value.cells, hce, he, h1, h2, o1, o2, n1, n2, w1, w2, kyT]
theorem key_inv_gen (hu : P.underlying t = some (.struct #[f1, f2])) (he : P.underlying e = some (.int .i64)) (h1 : f1.type = e) (h2 : f2.type = e) (o1 : f1.offset = 0) (o2 : f2.offset = 1) (n1 : (f1.name != "_") = true) (n2 : (f2.name != "_") = true)
    (hk : P.keyType t = true) (hc : P.cellsOf t = 2) (hce : P.cellsOf e = 1) {m : Nat} (hm : P.types.size = m + 1) {v : Value} {kl : Lit} (h : keyOf P t v = some kl) : ∃ q : KeyP, v = kyV q ∧ kl = kyT q ∧ q.In := by
  simp only [bne_iff_ne, ne_eq] at n1 n2
  cases v with
  | agg xs =>
    by_cases hxs : xs.size = 2
    · obtain ⟨a, b, rfl⟩ : ∃ a b, xs = #[a, b] := by
        obtain ⟨l⟩ := xs
        match l, hxs with
        | [a, b], _ => exact ⟨a, b, rfl⟩
      have e0 : P.keyLits (m + 1 + 1) t [a, b] = (P.keyLits (m + 1) e [a]).bind fun l1 => (P.keyLits (m + 1) e [b]).map fun l2 => l1 ++ l2 := by
        generalize m + 1 = d
        cases g1 : P.keyLits d e [a] <;> cases g2 : P.keyLits d e [b] <;> simp [Program.keyLits, hu, hc, hce, h1, h2, o1, o2, n1, n2, g1, g2]
      simp only [keyOf, hu, hk, Value.formed, hc, hm, Value.cells, e0] at h
      cases g1 : P.keyLits (m + 1) e [a] with
      | none => simp [g1] at h
      | some l1 =>
        cases g2 : P.keyLits (m + 1) e [b] with
        | none => simp [g1, g2] at h
        | some l2 =>
          obtain ⟨z1, e1, rfl⟩ := keyLits_int' he g1
          obtain ⟨z2, e2, rfl⟩ := keyLits_int' he g2
          injection e1 with e1
          injection e2 with e2
          subst e1 e2
          simp [g1, g2] at h
          refine ⟨⟨z1, z2⟩, rfl, h.symm, ?_, ?_⟩
          · simp [Program.keyLits, he] at g1
            exact in_wf.1 g1
          · simp [Program.keyLits, he] at g2
            exact in_wf.1 g2
    · simp [keyOf, hu, Value.formed, hc, hxs] at h
  | _ => simp [keyOf, hu, Value.formed] at h
end
theorem ky_form : ∃ f1 f2 : Field, Try.prog.underlying 56 = some (.struct #[f1, f2]) ∧ f1.type = 3 ∧ f2.type = 3 ∧ f1.offset = 0 ∧ f2.offset = 1 ∧ (f1.name != "_") = true ∧ (f2.name != "_") = true :=
  ⟨_, _, Try.underlying56, rfl, rfl, rfl, rfl, rfl, rfl⟩
theorem ky_tysz : ∃ m, Try.prog.types.size = m + 1 := ⟨Try.prog.types.size - 1, by have : 0 < Try.prog.types.size := of_decide_eq_true (by kernel_rfl); omega⟩
theorem key_of {q : KeyP} (h : q.In) : keyOf Try.prog 56 (kyV q) = some (kyT q) := by
  obtain ⟨m, hm⟩ := ky_tysz
  obtain ⟨f1, f2, hu, h1, h2, o1, o2, n1, n2⟩ := ky_form
  exact key_of_gen hu Try.underlying3 h1 h2 o1 o2 n1 n2 ky_deep ky_cells ky_cells3 hm h
theorem key_inv {v : Value} {kl : Lit} (h : keyOf Try.prog 56 v = some kl) : ∃ q : KeyP, v = kyV q ∧ kl = kyT q ∧ q.In := by
  obtain ⟨m, hm⟩ := ky_tysz
  obtain ⟨f1, f2, hu, h1, h2, o1, o2, n1, n2⟩ := ky_form
  exact key_inv_gen hu Try.underlying3 h1 h2 o1 o2 n1 n2 ky_deep ky_cells ky_cells3 hm h
theorem kyT_inj {p q : KeyP} (hp : p.In) (hq : q.In) (h : kyT p = kyT q) : p = q := by
  have := ky_keyed.inj (key_of hp) (h ▸ key_of hq)
  simp only [kyV, kyC, Value.agg.injEq] at this
  obtain ⟨p1, p2⟩ := p
  obtain ⟨q1, q2⟩ := q
  simpa using this

/-! ### A map by keys -/
def updK (f : KeyP → Bool) (q : KeyP) : KeyP → Bool := fun p => decide (p = q) || f p
/-- Block b is a map by keys, of at most n entries, that has just those of f. -/
def MapK (w : World) (b n : Nat) (f : KeyP → Bool) : Prop :=
  ∃ D : DataW Value, w.ownsMap Try.prog 56 RVal b n D ∧ Maps.IsMap D ∧ ∀ q : KeyP, q.In → Maps.has D (kyT q) = f q
/-- Block r goes through it: left: what is still to come. -/
def RangK (w : World) (b r n : Nat) (f left : KeyP → Bool) (cnt : Nat) : Prop :=
  ∃ (D : DataW Value) (lf : Lit → Bool), w.ranges Try.prog 56 RVal b r n D lf cnt ∧ (∀ q : KeyP, q.In → Maps.has D (kyT q) = f q) ∧ (∀ q : KeyP, q.In → lf (kyT q) = left q)
section
variable {w w' : World} {b r n cnt : Nat} {f left : KeyP → Bool}
theorem MapK.lt (h : MapK w b n f) : b < w.heap.size := by
  obtain ⟨D, h, _⟩ := h
  exact h.lt
theorem MapK.new (w : World) {s : Nat} (hs : w.heap.size = s) : MapK (w.alloc (.map #[] 0)) s 0 (fun _ => false) := by
  subst hs
  exact ⟨.map [], World.ownsMap_made w _ _ _, Maps.isMap_empty, fun i _ => rfl⟩
theorem MapK.kept {row : Option Nat} (h : MapK w b n f) (hg : w.grownBy w' row) (hne : some b ≠ row) : MapK w' b n f := by
  obtain ⟨D, h, x⟩ := h
  exact ⟨D, h.kept hg hne, x⟩
theorem MapK.alloc (h : MapK w b n f) (o : Obj) : MapK (w.alloc o) b n f := by
  obtain ⟨D, h, x⟩ := h
  exact ⟨D, h.alloc o, x⟩
theorem MapK.below (h : MapK w b n f) (hb : Below w.heap.size w w') : MapK w' b n f := by
  have hl := h.lt
  obtain ⟨D, ⟨es, clock, hh, F, hs, hD⟩, x⟩ := h
  exact ⟨D, ⟨es, clock, (hb.block b hl).trans hh, F, hs, hD⟩, x⟩
theorem MapK.far (h : MapK w b n f) {p : Addr} (hp : b ≠ p.block) (u : Value) : MapK (w.setCell p u) b n f := by
  obtain ⟨D, h, x⟩ := h
  exact ⟨D, h.setCell hp u, x⟩
theorem kyT_ne {p q : KeyP} (hp : p.In) (hq : q.In) (h : p ≠ q) : kyT p ≠ kyT q := fun e => h (kyT_inj hp hq e)
theorem MapK.put (h : MapK w b n f) (hn : n < 1000) {t e : TypeId} (ht : Try.prog.underlying t = some (.map 56 e)) {q : KeyP} (hq : q.In) (v : Value) :
    ∃ w', (Instr.mapUpdate t (.map (some b)) (kyV q) v).run Try.prog w = .ok () w' ∧ MapK w' b (n + 1) (updK f q) ∧ w.grownBy w' (some b) := by
  obtain ⟨D, h, hm, hf⟩ := h
  obtain ⟨w', hr, h2, hg⟩ := h.update ky_keyed ht (by unfold maxLen; omega) (key_of hq) (d := .held v) (ps := []) rfl
  refine ⟨w', hr, ⟨D.put (kyT q) (.held v), h2, hm.put _ _, fun p hp => ?_⟩, hg⟩
  unfold updK
  by_cases e : p = q
  · subst e
    rw [Maps.has_put_same hm (by trivial)]
    simp
  · rw [Maps.has_put_other (kyT_ne hp hq e), hf p hp]
    simp [e]
/-- In a walk: 'm[k] = v'. -/
theorem wpList_put_k {ops : Array Oper} {rest : List Oper} {o : Oper} {a : Act} {Q : Exit → Act → World → Prop} (h : MapK w b n f) (hn : n < 1000) (hg : o.guard = none) {m x v : Operand} {t e : TypeId} (hop : o.op = Op.mapUpdate t m x v)
    (ht : Try.prog.underlying t = some (.map 56 e)) (hm : a.eval m = .map (some b)) {q : KeyP} (hq : q.In) (hx : a.eval x = kyV q)
    (hK : ∀ w', MapK w' b (n + 1) (updK f q) → w.grownBy w' (some b) → wpList Try.prog ops Q rest (a.put o.dst undef) w') : wpList Try.prog ops Q (o :: rest) a w := by
  refine wpList_plain hg fun K' hK' => ?_
  obtain ⟨w', hrun, r1, r2⟩ := h.put hn ht hq (a.eval v)
  unfold Oper.wp
  simp [execOp, hop, hm, hx, hrun, Result.andThen]
  exact hK' _ _ (hK w' r1 r2)
/-- In a walk: 'range m'. -/
theorem wpList_range_k {ops : Array Oper} {rest : List Oper} {o : Oper} {a : Act} {Q : Exit → Act → World → Prop} (h : MapK w b n f) (hg : o.guard = none) {m : Operand} {t e : TypeId} (hop : o.op = Op.range t m)
    (ht : Try.prog.underlying t = some (.map 56 e)) (hm : a.eval m = .map (some b))
    (hK : ∀ w' cnt, cnt ≤ n → RangK w' b w.heap.size n f f cnt → w.grownBy w' none → w'.heap.size = w.heap.size + 1 → wpList Try.prog ops Q rest (a.put o.dst (.pointer (some ⟨w.heap.size, 0, none⟩))) w') : wpList Try.prog ops Q (o :: rest) a w := by
  obtain ⟨D, h, hm', hf⟩ := h
  exact wpList_range_own w hg m t hop 56 e ky_keyed ht RVal b n D hm h fun w' h1 h2 h3 => hK w' _ h.size_le ⟨D, _, h1, hf, hf⟩ h2 h3
theorem RangK.kept {row : Option Nat} (h : RangK w b r n f left cnt) (hg : w.grownBy w' row) (hb : some b ≠ row) (hr : some r ≠ row) : RangK w' b r n f left cnt := by
  obtain ⟨D, lf, h, x⟩ := h
  exact ⟨D, lf, h.kept hg hb hr, x⟩
theorem RangK.alloc (h : RangK w b r n f left cnt) (o : Obj) : RangK (w.alloc o) b r n f left cnt := by
  obtain ⟨D, lf, h, x⟩ := h
  exact ⟨D, lf, h.alloc o, x⟩
theorem RangK.left_eq (h : RangK w b r n f left cnt) : w.rangeLeft b r = cnt := by
  obtain ⟨D, lf, h, x⟩ := h
  exact h.left_eq
theorem RangK.lt (h : RangK w b r n f left cnt) : r < w.heap.size ∧ b < w.heap.size ∧ r ≠ b := by
  obtain ⟨D, lf, h, x⟩ := h
  exact ⟨h.lt, h.owns.lt, h.ne⟩
theorem kyT_same {p q : KeyP} (hp : p.In) (hq : q.In) : (kyT p).sameKey (kyT q) = decide (p = q) := by
  by_cases e : p = q
  · subst e
    rw [WideAt.sameKey_self (by trivial)]; simp
  · cases hs : (kyT p).sameKey (kyT q)
    · simp [e]
    · exact absurd (WideAt.sameKey_eq hs) (kyT_ne hp hq e)
/-- In a walk: the step. -/
theorem wpList_next_k {ops : Array Oper} {rest : List Oper} {o : Oper} {a : Act} {Q : Exit → Act → World → Prop} (h : RangK w b r n f left cnt) (hg : o.guard = none) {it : Operand} (hop : o.op = Op.next it false) (hit : a.eval it = .pointer (some ⟨r, 0, none⟩))
    (hDone : cnt = 0 → (∀ q : KeyP, q.In → left q = false) → wpList Try.prog ops Q rest (a.put o.dst (.tuple #[.bool false])) w)
    (hMore : ∀ (q : KeyP) (v : Value) (w' : World) (cnt' : Nat), q.In → left q = true → RangK w' b r n f (fun p => left p && !decide (p = q)) cnt' → cnt' < cnt → w.grownBy w' (some r) → w'.heap.size = w.heap.size →
      (Instr.entry (.pointer (some ⟨r, 0, none⟩))).run Try.prog w' = .ok (.tuple #[kyV q, v]) w' → wpList Try.prog ops Q rest (a.put o.dst (.tuple #[.bool true, kyV q, v])) w') : wpList Try.prog ops Q (o :: rest) a w := by
  obtain ⟨D, lf, h, hf, hl⟩ := h
  refine wpList_plain hg fun K' hK' => ?_
  unfold Oper.wp
  rcases h.next ky_keyed o.type with ⟨h0, hl0, hrun⟩ | ⟨key, v, kl, y, w', cnt', hkey, hlk, hv, hat, hrun, hrg, hlt, hgr, hsz, hen⟩
  · simp [execOp, hop, hit, hrun, Result.andThen]
    exact hK' _ _ (hDone h0 fun q hq => by rw [← hl q hq]; exact hl0 _)
  · obtain ⟨q, rfl, rfl, hq⟩ := key_inv hkey
    simp [execOp, hop, hit, hrun, Result.andThen]
    exact hK' _ _ (hMore q v w' cnt' hq (by rw [← hl q hq]; exact hlk) ⟨D, _, hrg, hf, fun p hp => by rw [hl p hp, kyT_same hp hq]⟩ hlt hgr hsz hen)
end
/-! ### Slices of keys -/
def Kys (w : World) (A : Option Addr) (n c : Nat) (l : List KeyP) : Prop := Sl 2 w A n c (ints .i64 (l.map kyL).flatten) ∧ l.length = n
abbrev KRow (w : World) (base : Nat) (A : Option Addr) (n c : Nat) (l : List KeyP) : Prop := TRow 56 2 w base A n c (l.map kyL)
theorem key_info : (Try.prog.info? 56).map (fun i => (i.zero, i.size, i.bytes)) = some (some (.agg #[.int .i64 0, .int .i64 0]), 2, 16) := by kernel_rfl
theorem KRow.kys {w : World} {base : Nat} {A : Option Addr} {n c : Nat} {l : List KeyP} (h : KRow w base A n c l) (hn : l.length = n) : Kys w A n c l := ⟨Sl.of_own h, hn⟩
theorem Kys.below {w w' : World} {A : Option Addr} {n c : Nat} {l : List KeyP} (h : Kys w A n c l) (hb : Below w.heap.size w w') : Kys w' A n c l := ⟨h.1.below hb, h.2⟩
theorem ky_wides (l : List KeyP) : ∀ x ∈ l.map kyL, x.length = 2 := by
  intro x hx
  obtain ⟨e, _, rfl⟩ := List.mem_map.1 hx
  rfl
theorem ky_len (l : List KeyP) : (l.map kyL).flatten.length = l.length * 2 := by
  induction l with
  | nil => rfl
  | cons a l ih => simp only [List.map_cons, List.flatten_cons, List.length_append, ih, List.length_cons]; simp [kyL]; omega
theorem ky_at : ∀ (l : List KeyP) (i : Nat), i < l.length → (ints .i64 (l.map kyL).flatten)[i * 2]? = some (.int .i64 (l.getD i KeyP.none).k) ∧ (ints .i64 (l.map kyL).flatten)[i * 2 + 1]? = some (.int .i64 (l.getD i KeyP.none).n)
  | [], i, h => by simp at h
  | a :: l, 0, _ => by simp [ints, kyL]
  | a :: l, i + 1, h => by
    obtain ⟨h1, h2⟩ := ky_at l i (by simpa using h)
    have e1 : (i + 1) * 2 = i * 2 + 2 := by omega
    have e2 : (i + 1) * 2 + 1 = i * 2 + 1 + 2 := by omega
    constructor
    · rw [e1]; simpa [ints, kyL] using h1
    · rw [e2]; simpa [ints, kyL] using h2
theorem Kys.form {w : World} {A : Option Addr} {n c : Nat} {l : List KeyP} (h : Kys w A n c l) (hn : 0 < n) : ∃ b off, A = some ⟨b, off, none⟩ := by
  obtain ⟨⟨hl, ⟨_, h0, _⟩ | ⟨ad, rfl, hc⟩⟩, hln⟩ := h
  · omega
  · have h0 := hc 0 _ (ky_at l 0 (by omega)).1
    obtain ⟨b, off, sp⟩ := ad
    have hsp : sp = none := by simpa [Addr.add] using World.cell?_spot h0
    subst hsp
    exact ⟨b, off, rfl⟩
theorem Kys.cell {w : World} {b off n c : Nat} {l : List KeyP} (h : Kys w (some ⟨b, off, none⟩) n c l) {i : Nat} (hi : i < n) {y : KeyP} (hy : l.getD i KeyP.none = y) : w.cell? ⟨b, off + i * 2, none⟩ = some (.int .i64 y.k) ∧ w.cell? ⟨b, off + i * 2 + 1, none⟩ = some (.int .i64 y.n) := by
  subst hy
  obtain ⟨⟨hl, ⟨h0, _, _⟩ | ⟨ad, e, hc⟩⟩, hn⟩ := h
  · cases h0
  · injection e with e
    subst e hn
    obtain ⟨k1, k2⟩ := ky_at l i hi
    have c1 := hc _ _ k1
    have c2 := hc _ _ k2
    have ea : ∀ j, ((⟨b, off, none⟩ : Addr).add j) = ⟨b, off + j, none⟩ := fun j => by unfold Addr.add; split <;> simp_all
    rw [ea] at c1 c2
    exact ⟨c1, by rw [Nat.add_assoc]; exact c2⟩
/-- One key more, laid for it. -/
theorem krow_one {w : World} {base n c : Nat} {A : Option Addr} {l : List KeyP} (h : KRow w base A n c l) (q : KeyP) (hm : n ≤ 1000) (hbase : base ≤ w.heap.size) {s : Nat} (hs : w.heap.size = s) :
    ∃ A' c' w', (Builtin.append_ #[45, 45] 45 #[.slice A n c, .slice (some ⟨s, 0, none⟩) 1 1]).run Try.prog (w.alloc (.cells (kyC q) 56)) = .ok (.slice A' (n + 1) c') w' ∧ KRow w' base A' (n + 1) c' (l ++ [q]) ∧ Kept (fun b => b < base) w w' ∧
      (∀ b, b < w.heap.size → (∀ g, A = some g → g.block ≠ b) → w'.heap[b]? = w.heap[b]?) ∧ (∀ g', A' = some g' → (∃ g, A = some g ∧ g'.block = g.block) ∨ w.heap.size ≤ g'.block) := by
  obtain ⟨A', c', w', h1, h2, h3, h4, h5⟩ := trow_one (t := 45) (e := 56) (k := 2) (by_ := 16) (z := .agg #[.int .i64 0, .int .i64 0]) Try.underlying45 key_info rfl (by omega) (by omega) h (kyL q) rfl hm hbase hs
  have e0 : (ints .i64 (kyL q)).toArray = kyC q := rfl
  rw [e0] at h1
  have e : (l ++ [q]).map kyL = l.map kyL ++ [kyL q] := by simp
  exact ⟨A', c', w', h1, by rw [KRow, e]; exact h2, h3, h4, h5⟩
end Go.Proofs.Ytedkhjbnjkcemaa

namespace Go.Proofs.Ytedkhjbnjkcemaa
open Go.RowKit Go.Sort
set_option linter.unusedVariables false
set_option linter.unusedSimpArgs false
set_option maxRecDepth 20000

theorem kys_len {l : List KeyP} : (ints .i64 (l.map kyL).flatten).length = l.length * 2 := by rw [ints, List.length_map, ky_len]
theorem kys_all : ∀ (l : List KeyP), ints .i64 (l.map kyL).flatten = (l.map fun q => [Value.int .i64 q.k, Value.int .i64 q.n]).flatten
  | [] => rfl
  | a :: l => by
    have := kys_all l
    simp only [ints] at this ⊢
    simp only [List.map_cons, List.flatten_cons, List.map_append, this]
    rfl
theorem kys_take : ∀ {l : List KeyP} (k : Nat), (ints .i64 ((l.take k).map kyL).flatten) = (ints .i64 (l.map kyL).flatten).take (k * 2)
  | l, 0 => by simp [ints]
  | [], k + 1 => by simp [ints]
  | a :: l, k + 1 => by
    have := kys_take (l := l) k
    have e : (k + 1) * 2 = k * 2 + 1 + 1 := by omega
    rw [e]
    simp only [ints, List.take_succ_cons, List.map_cons, List.flatten_cons, List.map_append] at this ⊢
    simp only [kyL, List.map_cons, List.map_nil, List.cons_append, List.nil_append, List.take_succ_cons, List.drop_succ_cons, this]
theorem kys_drop : ∀ {l : List KeyP} (k : Nat), (ints .i64 ((l.drop k).map kyL).flatten) = (ints .i64 (l.map kyL).flatten).drop (k * 2)
  | l, 0 => by simp [ints]
  | [], k + 1 => by simp [ints]
  | a :: l, k + 1 => by
    have := kys_drop (l := l) k
    have e : (k + 1) * 2 = k * 2 + 1 + 1 := by omega
    rw [e]
    simp only [ints, List.drop_succ_cons, List.map_cons, List.flatten_cons, List.map_append] at this ⊢
    simp only [kyL, List.map_cons, List.map_nil, List.cons_append, List.nil_append, List.take_succ_cons, List.drop_succ_cons, this]
/-! ### Slices cut -/
theorem ky_size (w : World) : (sizeOf (Try.prog.elem 45)).run Try.prog w = .ok 2 w := by kernel_rfl
theorem kycut_from {w : World} {A : Option Addr} {m c : Nat} {l : List KeyP} (h : Kys w A m c l) (hmc : m ≤ c) (n : Nat) (hn : n ≤ m) :
    ∃ A', (∀ w', (Instr.sliceAt 45 (.slice A m c) (some (.int .i64 (n : Int))) none none).run Try.prog w' = .ok (.slice A' (m - n) (c - n)) w') ∧ Kys w A' (m - n) (c - n) (l.drop n) := by
  have hl := h.2
  have hrun : ∀ w', (Instr.sliceAt 45 (.slice A m c) (some (.int .i64 (n : Int))) none none).run Try.prog w' = .ok (.slice (if c = n then A else A.map (·.add (n * 2))) (m - n) (c - n)) w' := by
    intro w'
    rw [run_sliceAt_slice _ _ _ _ _ _ Try.underlying45, run_slice_l _ _ _ _ _ Try.underlying45 .i64 (n : Int) (by omega) (by omega), ky_size]
    simp [sliced, Result.andThen]
  refine ⟨_, hrun, ?_, by rw [List.length_drop]; omega⟩
  obtain ⟨⟨hl', ⟨rfl, rfl, rfl⟩ | ⟨ad, rfl, hc⟩⟩, _⟩ := h
  · obtain rfl : n = 0 := by omega
    exact ⟨by rw [kys_len, List.length_drop]; omega, .inl ⟨by simp, rfl, rfl⟩⟩
  · refine ⟨by rw [kys_len, List.length_drop]; omega, .inr ?_⟩
    by_cases h0 : m - n = 0
    · have e : l.drop n = [] := List.drop_of_length_le (by omega)
      by_cases hcn : c = n
      · rw [if_pos hcn, e]; exact ⟨ad, rfl, fun j u hu => by simp [ints] at hu⟩
      · rw [if_neg hcn, e]; exact ⟨_, rfl, fun j u hu => by simp [ints] at hu⟩
    · rw [if_neg (by omega)]
      obtain ⟨b, off, e⟩ := (show Kys w (some ad) m c l from ⟨⟨hl', .inr ⟨ad, rfl, hc⟩⟩, hl⟩).form (by omega)
      injection e with e
      subst e
      refine ⟨_, rfl, fun j u hu => ?_⟩
      rw [kys_drop, List.getElem?_drop] at hu
      have := hc (n * 2 + j) u hu
      rw [tab_add] at this
      show w.cell? (((⟨b, off, none⟩ : Addr).add (n * 2)).add j) = some u
      rw [tab_add, tab_add, Nat.add_assoc]
      exact this
theorem kycut_to {w : World} {A : Option Addr} {m c : Nat} {l : List KeyP} (h : Kys w A m c l) (hmc : m ≤ c) (n : Nat) (hn : n ≤ m) :
    ∃ A', (∀ w', (Instr.sliceAt 45 (.slice A m c) none (some (.int .i64 (n : Int))) none).run Try.prog w' = .ok (.slice A' n c) w') ∧ Kys w A' n c (l.take n) := by
  have hl := h.2
  have hrun : ∀ w', (Instr.sliceAt 45 (.slice A m c) none (some (.int .i64 (n : Int))) none).run Try.prog w' = .ok (.slice (if c = 0 then A else A.map (·.add 0)) n c) w' := by
    intro w'
    rw [run_sliceAt_slice _ _ _ _ _ _ Try.underlying45, run_slice_h _ _ _ _ _ Try.underlying45 .i64 (n : Int) (by omega) (by omega), ky_size]
    simp [sliced, Result.andThen]
  refine ⟨_, hrun, ?_, by rw [List.length_take]; omega⟩
  have e : (if c = 0 then A else A.map (·.add 0)) = A := by
    split
    · rfl
    · cases A with
      | none => rfl
      | some ad =>
        rw [Option.map_some]
        unfold Addr.add
        split <;> simp_all
  rw [e]
  obtain ⟨⟨hl', ⟨rfl, rfl, rfl⟩ | ⟨ad, rfl, hc⟩⟩, _⟩ := h
  · obtain rfl : n = 0 := by omega
    exact ⟨by rw [kys_len]; simp, .inl ⟨rfl, rfl, rfl⟩⟩
  · refine ⟨by rw [kys_len, List.length_take]; omega, .inr ⟨ad, rfl, fun j u hu => hc j u ?_⟩⟩
    rw [kys_take, List.getElem?_take] at hu
    split at hu
    · exact hu
    · cases hu
/-! ### Rows -/
theorem krow_mono {w : World} {base b : Nat} {A : Option Addr} {n c : Nat} {l : List KeyP} (h : KRow w base A n c l) (hb : b ≤ base) : KRow w b A n c l := by
  obtain ⟨hl, hn | ⟨g, cap, cur, hv, hg, rest⟩⟩ := h
  · exact ⟨hl, .inl hn⟩
  · exact ⟨hl, .inr ⟨g, cap, cur, hv, by omega, rest⟩⟩
theorem krow_empty (w : World) : KRow (w.alloc (.cells #[] 56)) w.heap.size (some ⟨w.heap.size, 0, none⟩) 0 0 [] := own_new w 56 2 0 #[] rfl (by decide)
/-- One event, laid for an append. -/
theorem kys_one (w : World) (x : KeyP) : Kys (w.alloc (.cells (kyC x) 56)) (some ⟨w.heap.size, 0, none⟩) 1 1 [x] := by
  have := own_new w 56 2 1 (kyC x) rfl (by decide)
  refine ⟨?_, rfl⟩
  have h := Sl.of_own this
  have e : (kyC x).toList = ints .i64 ([x].map kyL).flatten := rfl
  rw [← e]
  exact h
/-- An append of what a slice of events holds. -/
theorem krow_append {w : World} {base c : Nat} {A : Option Addr} {n : Nat} {l : List KeyP} (h : KRow w base A n c l) {B : Option Addr} {m d : Nat} {l' : List KeyP} (hs : Kys w B m d l') (hm : n + m ≤ 100000) (hbase : base ≤ w.heap.size) {k : Nat} (hk : n + m = k) :
    ∃ A' c' w', (Builtin.append_ #[45, 45] 45 #[.slice A n c, .slice B m d]).run Try.prog w = .ok (.slice A' k c') w' ∧ KRow w' base A' k c' (l ++ l') ∧
      (∀ a : World, a.heap.size ≤ base → Below a.heap.size a w → Below a.heap.size a w') ∧ (∀ b, b < w.heap.size → (∀ g, A = some g → b ≠ g.block) → w'.heap[b]? = w.heap[b]?) := by
  subst hk
  obtain ⟨A', c', w', hr, ho, hg, hl⟩ := append_any (P := Try.prog) w base 45 45 56 _ 2 16 Try.underlying45 key_info rfl (by omega) h hs.1 (ints_one .i64 _) (n + m) rfl (ints .i64 ((l ++ l').map kyL).flatten) (by simp [ints]) (by omega) (by omega) hbase
  refine ⟨A', c', w', hr, ho, fun a ha hb => bel_grown hb h ha hg, fun b hb hne => ?_⟩
  obtain ⟨_, _, _, _, q⟩ := hg
  refine q b hb (fun e => ?_)
  rcases h.2 with ⟨hv, _⟩ | ⟨g, cap, cur, hv, _⟩
  · injection hv with e1 e2 e3
    subst e1
    simp [Value.ownBlock] at e
  · injection hv with e1 e2 e3
    subst e1
    have e' : some g = some b := e.symm
    injection e' with e'
    exact hne _ rfl e'.symm
theorem krow_caps {w : World} {base : Nat} {A : Option Addr} {n c : Nat} {l : List KeyP} (h : KRow w base A n c l) : n ≤ c ∧ c ≤ 9223372036854775807 := by
  obtain ⟨hl, ⟨hv, hz⟩ | ⟨g, cap, cur, hv, hb, hh, hc, hm, _⟩⟩ := h
  · injection hv with e1 e2 e3
    omega
  · injection hv with e1 e2 e3
    simp only [maxLen] at hm
    omega
theorem Kys.keep {w w' : World} {A : Option Addr} {n c : Nat} {l : List KeyP} (h : Kys w A n c l) (hk : ∀ g, A = some g → w'.heap[g.block]? = w.heap[g.block]?) : Kys w' A n c l := by
  obtain ⟨⟨hl, h0 | ⟨ad, rfl, hc⟩⟩, hn⟩ := h
  · exact ⟨⟨hl, .inl h0⟩, hn⟩
  · refine ⟨⟨hl, .inr ⟨ad, rfl, fun j u hu => ?_⟩⟩, hn⟩
    rw [← hc j u hu]
    have e := hk _ rfl
    unfold World.cell?
    rw [show (ad.add j).block = ad.block by unfold Addr.add; split <;> rfl, e]
theorem wp_build_k {o : Oper} {a : Act} {w : World} {K : Act → World → Prop} {Q : Exit → Act → World → Prop} {y : Operand} (x : KeyP)
    (ho : o.op = .buildSlice 45 1 #[(0, y)]) (hy : a.eval y = .agg (kyC x)) (h : K (a.put o.dst (.slice (some ⟨w.heap.size, 0, none⟩) 1 1)) (w.alloc (.cells (kyC x) 56))) : o.wp Try.prog a w K Q := by
  obtain ⟨a1, a2⟩ := x
  simp only [kyC] at hy h
  unfold Oper.wp execOp
  simp only [ho, List.map_toArray, List.map_cons, List.map_nil, hy]
  go_simp
  exact h
theorem run_loadKey_at {w : World} {b off : Nat} {e : KeyP} (h0 : w.cell? ⟨b, off, none⟩ = some (.int .i64 e.k)) (h1 : w.cell? ⟨b, off + 1, none⟩ = some (.int .i64 e.n)) : (loadVar 56 ⟨b, off, none⟩).run Try.prog w = .ok (.agg (kyC e)) w := by
  have h := run_loadCells_list (P := Try.prog) (w := w) ⟨b, off, none⟩ [.int .i64 e.k, .int .i64 e.n] (fun j v hv => by
    rw [tab_add]
    match j, hv with
    | 0, hv => simp at hv; subst hv; exact h0
    | 1, hv => simp at hv; subst hv; exact h1)
  unfold loadVar
  simp only [Sem.run_bind, Sem.run_pure, Try.isAgg56, Try.sizeOf56, Result.andThen_ok, if_true]
  have h' : (loadCells ⟨b, off, none⟩ 2).run Try.prog w = .ok (kyC e) w := h
  simp [h']
theorem kys_load {w : World} {b off n c : Nat} {l : List KeyP} (h : Kys w (some ⟨b, off, none⟩) n c l) {i : Nat} (hi : i < n) {y : KeyP} (hy : l.getD i KeyP.none = y) : (loadVar 56 ⟨b, off + i * 2, none⟩).run Try.prog w = .ok (.agg (kyC y)) w :=
  run_loadKey_at (h.cell hi hy).1 (h.cell hi hy).2
theorem has_load_k {w : World} {b : Nat} {e : KeyP} (h : Has w b (kyC e)) : (loadVar 56 ⟨b, 0, none⟩).run Try.prog w = .ok (.agg (kyC e)) w :=
  run_loadKey_at (h.cell 0 rfl) (h.cell 1 rfl)
theorem exec_loadKey_at {o : Oper} {ρ : Operand → Value} {ww : World} (x : Operand) (ho : o.op = .load 56 x) {b off : Nat} (hx : ρ x = .pointer (some ⟨b, off, none⟩)) {v : Value} (hl : (loadVar 56 ⟨b, off, none⟩).run Try.prog ww = .ok v ww) : (execOp ρ o).run Try.prog ww = .ok (.value v) ww := by
  unfold execOp
  simp only [ho, hx, Instr.loadAt, Instr.sureAddr, Sem.run_bind, Sem.run_pure, Result.andThen_ok, hl]
theorem run_ky_eql (x y : KeyP) (w : World) : (binOp .eql 56 (.agg (kyC x)) (.agg (kyC y))).run Try.prog w = .ok (.bool (decide (x = y))) w := by
  have u3 := Try.underlying3
  have a3 := Try.isAgg3
  have z3 := Try.sizeOf3
  have hS : Try.prog.underlying 56 = some (.struct (Try.prog.fieldsOf 56)) := by kernel_rfl
  have hp : Try.prog.stoodInHeld 56 = false := by kernel_rfl
  obtain ⟨a1, a2⟩ := x
  obtain ⟨b1, b2⟩ := y
  simp only [kyC]
  rw [run_eql_struct, show (10000 : Nat) = 9999 + 1 from rfl, run_equalIn_agg w 9999 56 _ _ hS hp]
  simp only [Program.fieldsOf, Try.underlying56]
  go_simp
  simp only [ite_b1]
  simp only [ite_b2]
theorem run_ky_neq (x y : KeyP) (w : World) : (binOp .neq 56 (.agg (kyC x)) (.agg (kyC y))).run Try.prog w = .ok (.bool (!decide (x = y))) w := by
  have u3 := Try.underlying3
  have a3 := Try.isAgg3
  have z3 := Try.sizeOf3
  have hS : Try.prog.underlying 56 = some (.struct (Try.prog.fieldsOf 56)) := by kernel_rfl
  have hp : Try.prog.stoodInHeld 56 = false := by kernel_rfl
  obtain ⟨a1, a2⟩ := x
  obtain ⟨b1, b2⟩ := y
  simp only [kyC]
  rw [run_neq_struct, show (10000 : Nat) = 9999 + 1 from rfl, run_equalIn_agg w 9999 56 _ _ hS hp]
  simp only [Program.fieldsOf, Try.underlying56]
  go_simp
  simp only [ite_n1]
  simp only [ite_n2]
end Go.Proofs.Ytedkhjbnjkcemaa
