/-
  An argument of type api.Setup: how many ways it may have at most, by what the form says of every slice that comes in.
-/
import Derived.Test.YtcnekicfblbafaaSetOpen
import Derived.SizedLaws
namespace Go.Proofs.Ytcnekicfblbafaa
open Go.RowKit Go.Deep Go.WideShapes
set_option linter.unusedVariables false
set_option maxRecDepth 20000

theorem setup_sized {H : Type} {enc : TypeId × Value → H} {w : World} {base : Nat} {held : Bool} {s : SetP} {A1 A2 A3 A4 A5 A6 : Option Addr} {c1 c2 c3 c4 c5 c6 : Nat} {d : DataW H} {p : List MemPlace}
    (h : DataW.Trod enc Try.prog w base (fun _ => true) held 30 (setV s A1 A2 A3 A4 A5 A6 c1 c2 c3 c4 c5 c6) d p) {ts : List TypeId} {ds : List (DataW H)}
    (hr : (DataW.weightsEach Try.prog (30 :: ts) (d :: ds)).all (· ≤ reachBytes) = true) : s.ways.length * 24 ≤ 140737488351232 := by
  obtain ⟨fuel, hfu⟩ := h
  obtain ⟨xs, m, _, hd, hl, hxl, hx⟩ := DataW.trod_struct Try.underlying30 hfu
  simp only [Prod.mk.injEq] at hd
  obtain ⟨rfl, -⟩ := hd
  have h1 := hx 1 _ rfl
  have hx1 : 1 < xs.length := by rw [hxl]; decide
  rw [List.getElem?_eq_getElem hx1] at h1
  have e1 : (((setV s A1 A2 A3 A4 A5 A6 c1 c2 c3 c4 c5 c6).cells.toList.drop 1).take (Try.prog.cellsOf 22)) = [.slice A1 s.ways.length c1] := by
    have : Try.prog.cellsOf 22 = 1 := by kernel_rfl
    rw [this]
    rfl
  have h2 : DataW.trod enc Try.prog w base (fun _ => true) held m 22 [.slice A1 s.ways.length c1] = some xs[1] := by
    rw [← e1]
    exact h1
  have hall : ∀ n ∈ DataW.weights Try.prog 22 xs[1].1, n ≤ reachBytes := by
    intro n hn
    have hm : n ∈ DataW.weights Try.prog 30 (.agg (xs.map (·.1))) := by
      rw [DataW.weights, Try.underlying30]
      exact DataW.weights_mem_each (j := 1) (t := 22) (d := xs[1].1) rfl (by simp [hx1]) n hn
    have := List.all_eq_true.1 hr n (DataW.weights_mem_each (j := 0) rfl rfl n hm)
    simpa using this
  rcases open_slice Try.underlying22 h2 with ⟨hcs, -⟩ | ⟨a, len, cap, m', f, D, Pl, hcs, -, -, -, -, hxe, -⟩
  · simp only [List.cons.injEq, Value.slice.injEq, and_true] at hcs
    omega
  · simp only [List.cons.injEq, Value.slice.injEq, and_true] at hcs
    obtain ⟨-, hlen, -⟩ := hcs
    have e2 : xs[1].1 = .slice ((List.range len).map D) ((List.range (m' - len)).map fun j => D (len + j)) := by rw [hxe]
    rw [e2, DataW.weights, Try.underlying22] at hall
    have hb : Try.prog.bytesOf 39 = 24 := by kernel_rfl
    have := hall _ (List.mem_cons_self ..)
    rw [hb] at this
    simp only [List.length_map, List.length_range] at this
    have hq : reachBytes = 140737488351232 := rfl
    have h3 : len * 24 ≤ (len + (m' - len)) * 24 := Nat.mul_le_mul_right _ (by omega)
    rw [hlen]
    omega
/-- An argument of type api.Way, opened. -/
theorem way_open {H : Type} {enc : TypeId × Value → H} {w : World} {r : Reach} {b0 base : Nat} {held : Bool} {v : Value} {d : DataW H} {p : List MemPlace}
    (hv : Value.okWide Try.prog w r b0 39 v) (h : DataW.Trod enc Try.prog w base (fun _ => true) held 39 v d p) :
    ∃ a b c : Int, v = .agg #[.int .i64 a, .int .i64 b, .int .i64 c] ∧ In64 a ∧ In64 b ∧ In64 c := by
  obtain ⟨cs, rfl, hsz⟩ := okWide_struct Try.underlying39 hv
  obtain ⟨fuel, hfu⟩ := h
  obtain ⟨zs, hl, e, hb⟩ := numsT_way _ _ _ _ _ _ _ _ _ hfu
  match zs, hl with
  | [a, b, c], _ =>
    have e2 : cs = #[.int .i64 a, .int .i64 b, .int .i64 c] := by
      apply Array.toList_inj.1
      exact e
    subst e2
    exact ⟨a, b, c, rfl, hb a (by simp), hb b (by simp), hb c (by simp)⟩
end Go.Proofs.Ytcnekicfblbafaa
