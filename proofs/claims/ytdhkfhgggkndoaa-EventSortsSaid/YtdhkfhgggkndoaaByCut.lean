/-
  Slices cut out of slices of bytes: 'b[n:]', 'b[:n]'; whatever the capacity.
-/
import Derived.Test.YtdhkfhgggkndoaaProg
import Derived.Test.YtdhkfhgggkndoaaByStr
import Derived.Test.YtdhkfhgggkndoaaByOpen
import Derived.Laws.Slices
namespace Go.Proofs.Ytdhkfhgggkndoaa
open Go.RowKit
set_option linter.unusedVariables false
set_option maxRecDepth 20000

theorem u8_size (w : World) : (sizeOf (Try.prog.elem 31)).run Try.prog w = .ok 1 w := by kernel_rfl
/-- 'b[n:]': where it lies is not asked. -/
theorem cut_from {w : World} {A : Option Addr} {m c : Nat} {l : List (BitVec 8)} (h : Sl 1 w A m c (bytesV l)) (hmc : m ≤ c) (n : Nat) (hn : n ≤ m) :
    ∃ A', (∀ w', (Instr.sliceAt 31 (.slice A m c) (some (.int .i64 (n : Int))) none none).run Try.prog w' = .ok (.slice A' (m - n) (c - n)) w') ∧ Sl 1 w A' (m - n) (c - n) (bytesV (l.drop n)) := by
  have hl := h.blen
  have hrun : ∀ w', (Instr.sliceAt 31 (.slice A m c) (some (.int .i64 (n : Int))) none none).run Try.prog w' = .ok (.slice (if c = n then A else A.map (·.add n)) (m - n) (c - n)) w' := by
    intro w'
    rw [run_sliceAt_slice _ _ _ _ _ _ Try.underlying31, run_slice_l _ _ _ _ _ Try.underlying31 .i64 (n : Int) (by omega) (by omega), u8_size]
    simp [sliced, Result.andThen]
  refine ⟨_, hrun, ?_⟩
  obtain ⟨hl', ⟨rfl, rfl, rfl⟩ | ⟨ad, rfl, hc⟩⟩ := h
  · obtain rfl : n = 0 := by omega
    exact ⟨by rw [bytesV_len, List.length_drop]; omega, .inl ⟨by simp, rfl, rfl⟩⟩
  · by_cases h0 : m - n = 0
    · rw [List.drop_of_length_le (by omega), h0]
      refine ⟨rfl, .inr ?_⟩
      by_cases hcn : c = n
      · rw [if_pos hcn]; exact ⟨ad, rfl, fun j u hu => by simp [bytesV] at hu⟩
      · rw [if_neg hcn]; exact ⟨_, rfl, fun j u hu => by simp [bytesV] at hu⟩
    · have hs : Sl 1 w (some ad) m c (bytesV l) := ⟨hl', .inr ⟨ad, rfl, hc⟩⟩
      obtain ⟨b, off, e⟩ := sl_form hs (show 0 < m by omega)
      injection e with e
      subst e
      rw [if_neg (by omega)]
      have := sl_drop hs (n := n) (d := c - n) hn rfl
      rwa [Option.map_some, by_add_none]
/-- 'b[:n]'. -/
theorem cut_to {w : World} {A : Option Addr} {m c : Nat} {l : List (BitVec 8)} (h : Sl 1 w A m c (bytesV l)) (hmc : m ≤ c) (n : Nat) (hn : n ≤ m) :
    ∃ A', (∀ w', (Instr.sliceAt 31 (.slice A m c) none (some (.int .i64 (n : Int))) none).run Try.prog w' = .ok (.slice A' n c) w') ∧ Sl 1 w A' n c (bytesV (l.take n)) := by
  have hrun : ∀ w', (Instr.sliceAt 31 (.slice A m c) none (some (.int .i64 (n : Int))) none).run Try.prog w' = .ok (.slice (if c = 0 then A else A.map (·.add 0)) n c) w' := by
    intro w'
    rw [run_sliceAt_slice _ _ _ _ _ _ Try.underlying31, run_slice_h _ _ _ _ _ Try.underlying31 .i64 (n : Int) (by omega) (by omega), u8_size]
    simp [sliced, Result.andThen]
  refine ⟨_, hrun, ?_⟩
  have e : (if c = 0 then A else A.map (·.add 0)) = A := by
    split
    · rfl
    · cases A with
      | none => rfl
      | some ad =>
        rw [Option.map_some]
        unfold Addr.add
        split <;> simp_all
  rw [e]
  exact sl_take h hn (fun hA => by
    obtain ⟨_, ⟨_, _, hz⟩ | ⟨ad, e, _⟩⟩ := h
    · exact hz
    · rw [hA] at e; cases e)
/-- The same, in whatever world the bytes are read. -/
theorem cut_from_all {w : World} {A : Option Addr} {m c : Nat} {l : List (BitVec 8)} (h : Sl 1 w A m c (bytesV l)) (hmc : m ≤ c) (n : Nat) (hn : n ≤ m) :
    ∃ A', (∀ w', (Instr.sliceAt 31 (.slice A m c) (some (.int .i64 (n : Int))) none none).run Try.prog w' = .ok (.slice A' (m - n) (c - n)) w') ∧ ∀ w0, Sl 1 w0 A m c (bytesV l) → Sl 1 w0 A' (m - n) (c - n) (bytesV (l.drop n)) := by
  obtain ⟨A1, hr, _⟩ := cut_from h hmc n hn
  refine ⟨A1, hr, fun w0 h0 => ?_⟩
  obtain ⟨A2, hr2, hs2⟩ := cut_from h0 hmc n hn
  have e := (hr w).symm.trans (hr2 w)
  injection e with e
  injection e with e1
  subst e1
  exact hs2
theorem cut_to_all {w : World} {A : Option Addr} {m c : Nat} {l : List (BitVec 8)} (h : Sl 1 w A m c (bytesV l)) (hmc : m ≤ c) (n : Nat) (hn : n ≤ m) :
    ∃ A', (∀ w', (Instr.sliceAt 31 (.slice A m c) none (some (.int .i64 (n : Int))) none).run Try.prog w' = .ok (.slice A' n c) w') ∧ ∀ w0, Sl 1 w0 A m c (bytesV l) → Sl 1 w0 A' n c (bytesV (l.take n)) := by
  obtain ⟨A1, hr, _⟩ := cut_to h hmc n hn
  refine ⟨A1, hr, fun w0 h0 => ?_⟩
  obtain ⟨A2, hr2, hs2⟩ := cut_to h0 hmc n hn
  have e := (hr w).symm.trans (hr2 w)
  injection e with e
  injection e with e1
  subst e1
  exact hs2
/-- In a walk: a slice whose run is known. -/
theorem wpList_slice_run {P : Program} {ops : Array Oper} {rest : List Oper} {o : Oper} {a : Act} {w : World} {Q : Exit → Act → World → Prop} {x : Operand} {l h m : Option Operand} {t : TypeId} {v v' : Value} {lo hi mx : Option Value}
    (hr : ∀ w', (Instr.sliceAt t v lo hi mx).run P w' = .ok v' w') (hgd : o.guard = none)
    (ho : o.op = .slice t x l h m) (hx : a.eval x = v) (h1 : l.map a.eval = lo) (h2 : h.map a.eval = hi) (h3 : m.map a.eval = mx)
    (hk : wpList P ops Q rest (a.put o.dst v') w) : wpList P ops Q (o :: rest) a w := by
  refine wpList_plain hgd fun K hK => ?_
  unfold Oper.wp
  simp [execOp, ho, hx, h1, h2, h3, hr, Result.andThen]
  exact hK _ _ hk
/-- In a drawn region: the same. -/
theorem exec_slice_run {P : Program} {o : Oper} {ρ : Operand → Value} {ww : World} {x : Operand} {l h m : Option Operand} {t : TypeId} {v v' : Value} {lo hi mx : Option Value}
    (hr : ∀ w', (Instr.sliceAt t v lo hi mx).run P w' = .ok v' w') (ho : o.op = .slice t x l h m) (hx : ρ x = v) (h1 : l.map ρ = lo) (h2 : h.map ρ = hi) (h3 : m.map ρ = mx) :
    (execOp ρ o).run P ww = .ok (.value v') ww := by
  simp [execOp, ho, hx, h1, h2, h3, hr, Result.andThen]
end Go.Proofs.Ytdhkfhgggkndoaa
