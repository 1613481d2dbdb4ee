/-
  The calls whose answers the document fixes, at the head of layer 9's laws.
-/
import Derived.Test.YtoconmcmnikdnaaWayD
namespace Go.Proofs.Ytoconmcmnikdnaa
open Go.RowKit
set_option linter.unusedVariables false
set_option linter.unusedSimpArgs false
set_option maxRecDepth 20000

theorem wpList_load_sg {ops : Array Oper} {rest : List Oper} {o : Oper} {a : Act} {w : World} {Q : Exit → Act → World → Prop} (hgd : Region.wanted o (yielded ops a.tmps) = true) (x : Operand) (ho : o.op = .load 30 x)
    (g : Nat) (hx : a.eval x = .pointer (some ⟨g, 0, none⟩)) (cs : Array Value) (hg : Has w g cs) (hs : cs.size = 23)
    (h : wpList Try.prog ops Q rest (a.put o.dst (.agg cs)) w) : wpList Try.prog ops Q (o :: rest) a w := by
  refine wpList_step fun K hK => ?_
  rw [if_pos hgd]
  obtain ⟨t, hg⟩ := hg
  exact wp_load_row _ x ho g hx t cs (0, 0) _ hg Try.underlying30 rfl (by rw [hs]; kernel_rfl) (hK _ _ h)
theorem tab_rows {w : World} {g k n : Nat} {t : Rows2} (h : Has w g (ints .i64 t.flatten).toArray) (hk : ∀ r ∈ t, r.length = k) (hn : t.length = n) (h6 : n ≤ 1000) (hz : ∀ r ∈ t, ∀ z ∈ r, In64 z) : Tab k w (some ⟨g, 0, none⟩) n n t := by
  refine ⟨⟨?_, .inr ⟨_, rfl, fun j u hu => ?_⟩⟩, hn, hk, hz, by omega, by omega⟩
  · rw [ints, List.length_map, rows_len t hk, hn, Nat.mul_comm]
  · rw [tab_add, Nat.zero_add]
    refine h.cell j ?_
    simpa using hu
end Go.Proofs.Ytoconmcmnikdnaa
