/-
  The calls whose answers layer 14's document fixes: they are as it says; few; what the laws are walked by.
  Package breaks: a day parted in what is paid and what is not.
  Package breaks: all days, one by one.
  Plain facts for the laws of breaks: what is paid and what is not, together, of a day, by its first and its last ones.
-/
import Derived.Test.YthdolmhnjinlhaaGreatZas
import Derived.Test.YthdolmhnjinlhaaGreatZag
import Derived.Test.YthdolmhnjinlhaaGreatZaj
import Derived.Test.YthdolmhnjinlhaaGreatZav
import Derived.Deep.DeepCutAuto
import Derived.Test.YthdolmhnjinlhaaGreatZae
import Derived.Test.YthdolmhnjinlhaaGreatZac
import Derived.Test.YthdolmhnjinlhaaGreatProg
import Derived.Test.YthdolmhnjinlhaaGreatZab
import Derived.WalkKit
import Derived.Laws.StructEq
import Derived.Laws.Cover1
import Derived.Deep.WholeRow
import Derived.KernelRfl
import Derived.Lib.Hide
import Derived.Test.YthdolmhnjinlhaaGreatZai
import Derived.RegionTactic
import Derived.Sort.Grow
import Derived.Sort.LotA
import Derived.Test.YthdolmhnjinlhaaGreatZal
import Derived.Shelf.Abstract
import Derived.Lib.SliceRun
import Derived.Sort.WalkB2
import Derived.Sort.WalkB12
import Derived.Deep.LoopGhost
import Derived.IntWalk
import Derived.Test.YthdolmhnjinlhaaGreatZak
import Derived.OpenShut
import Derived.WalkLawsBesides
import Derived.WalkMore
import Derived.ScopeJumps
import Derived.Laws.Slices
import Derived.StillTailTactics
import Derived.Laws.Tables
import Derived.Laws.CopyOwn
import Derived.Test.YthdolmhnjinlhaaGreatZaq
import Derived.Lib.SlBytesConst
import Derived.Deep.RegionHeld3
import Derived.Test.YthdolmhnjinlhaaGreatZad
import Derived.Shelf.RegionOpen
namespace Go.Proofs.YthdolmhnjinlhaaGreat
open Go.RowKit
set_option linter.unusedVariables false
set_option linter.unusedSimpArgs false
set_option maxRecDepth 20000

def nonC : Array Value := #[.int .i64 0, .slice none 0 0, .int .i64 0, .int .i64 0, .slice none 0 0, .slice none 0 0, .slice none 0 0, .int .i64 0, .int .i64 0, .int .i64 0, .int .i64 0, .int .i64 0, .int .i64 0,
  .int .i64 0, .int .i64 0, .int .i64 0, .int .i64 0, .int .i64 0, .slice none 0 0, .int .i64 0, .int .i64 0, .int .i64 0, .slice none 0 0]
theorem nonC_V : setV SetP.none none none none none none none 0 0 0 0 0 0 = .agg nonC := rfl
theorem non_c (w : World) : SetC w SetP.none nonC := ⟨none, none, none, none, none, none, 0, 0, 0, 0, 0, 0, nonC_V, ⟨Tab.nil_, Tab.nil_, Tab.nil_, Tab.nil_, Tab.nil_, Tab.nil_⟩⟩
theorem tab_one14 {w : World} {g : Nat} (h : Has w g #[.int .i64 1]) : Tab 1 w (some ⟨g, 0, none⟩) 1 1 ([1].map fun n => [n]) := by
  refine ⟨⟨rfl, .inr ⟨_, rfl, fun j u hu => ?_⟩⟩, rfl, by simp, by simp [In64], by omega, by omega⟩
  rw [tab_add, Nat.zero_add]
  exact h.cell j (by simpa [ints] using hu)
/-- In a drawn region: a whole setup is read. -/
theorem exec_load_sp {o : Oper} {ρ : Operand → Value} {ww : World} (x : Operand) (ho : o.op = .load 30 x) {g : Nat} (hx : ρ x = .pointer (some ⟨g, 0, none⟩)) {cs : Array Value} (hg : Has ww g cs) (hs : cs.size = 23) :
    (execOp ρ o).run Tryz.prog ww = .ok (.value (.agg cs)) ww := by
  obtain ⟨t, hg⟩ := hg
  unfold execOp
  simp only [ho, hx, Instr.loadAt, Instr.sureAddr, Sem.run_bind, Sem.run_pure, Result.andThen_ok, run_loadVar_row (P := Tryz.prog) ww g t 30 cs (0, 0) _ hg Tryz.underlying30 rfl (by rw [hs]; kernel_rfl)]
/-! ### few -/
end Go.Proofs.YthdolmhnjinlhaaGreat

namespace Go.Proofs.YthdolmhnjinlhaaGreat
open Go.RowKit
set_option linter.unusedVariables false
set_option linter.unusedSimpArgs false
set_option maxRecDepth 20000

theorem row_sl {w : World} {base c : Nat} {A : Option Addr} {xs : List (Int × Int)} (h : Row w base A c xs) : Sl 2 w A xs.length c (cells2 xs) := Sl.of_own h

end Go.Proofs.YthdolmhnjinlhaaGreat

namespace Go.Proofs.YthdolmhnjinlhaaGreat
open Go.RowKit
set_option linter.unusedVariables false
set_option linter.unusedSimpArgs false
set_option maxRecDepth 20000

theorem wp_append_runB {P : Program} {o : Oper} {a : Act} {w w' : World} {K : Act → World → Prop} {Q : Exit → Act → World → Prop} {s x : Operand} {t : TypeId} {v u v' : Value}
    (hr : (Builtin.append_ #[t, t] o.type #[v, u]).run P w = .ok v' w')
    (ho : o.op = .call { callee := .builtin .append, args := #[s, x], argTypes := #[t, t] }) (hs : a.eval s = v) (hx : a.eval x = u)
    (h : K (a.put o.dst v') w') : o.wp P a w K Q := by
  unfold Oper.wp execOp
  simp only [ho, resolve, invoke, builtin, Sem.run_bind, Sem.run_pure, Result.andThen_ok, List.map_toArray, List.map_cons, List.map_nil, hs, hx, hr]
  exact h
/-- Two slices of the call's own, in two blocks. -/
structure Two2 (w : World) (base : Nat) (A : Option Addr) (c : Nat) (xs : List (Int × Int)) (B : Option Addr) (d : Nat) (ys : List (Int × Int)) : Prop where
  a : Row w base A c xs
  b : Row w base B d ys
  ne : ∀ x y, A = some x → B = some y → x.block ≠ y.block
end Go.Proofs.YthdolmhnjinlhaaGreat

namespace Go.Proofs.YthdolmhnjinlhaaGreat
open Go.RowKit
set_option linter.unusedVariables false
set_option linter.unusedSimpArgs false
set_option maxRecDepth 100000

theorem wpList_append_run_onB {P : Program} {ops : Array Oper} {rest : List Oper} {o : Oper} {a : Act} {w w' : World} {Q : Exit → Act → World → Prop} {s x : Operand} {t : TypeId} {v u v' : Value}
    (hr : (Builtin.append_ #[t, t] o.type #[v, u]).run P w = .ok v' w') (hgd : Region.wanted o (yielded ops a.tmps) = true)
    (ho : o.op = .call { callee := .builtin .append, args := #[s, x], argTypes := #[t, t] }) (hs : a.eval s = v) (hx : a.eval x = u)
    (h : wpList P ops Q rest (a.put o.dst v') w') : wpList P ops Q (o :: rest) a w := by
  refine wpList_step fun K hK => ?_
  rw [if_pos hgd]
  unfold Oper.wp execOp
  simp only [ho, resolve, invoke, builtin, Sem.run_bind, Sem.run_pure, Result.andThen_ok, List.map_toArray, List.map_cons, List.map_nil, hs, hx, hr]
  exact hK _ _ h
section
variable {s : SetP} {l : List SegP}
theorem pl_len {l : List (Int × Int)} (h : PlainFrom 0 l) : l.length ≤ 32054401 := by have := plain_len h (by omega); omega
end
end Go.Proofs.YthdolmhnjinlhaaGreat
