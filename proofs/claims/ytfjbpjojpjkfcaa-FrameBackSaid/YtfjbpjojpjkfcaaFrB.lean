/-
  Package frame: where the payload of a frame that bytes may begin with begins, and ends.
-/
import Derived.Test.YtfjbpjojpjkfcaaFrBnd
namespace Go.Proofs.Ytfjbpjojpjkfcaa
open Go.RowKit
set_option linter.unusedVariables false

/-- In a walk: the less of two numbers. -/
theorem wpList_min2 {P : Program} {ops : Array Oper} {rest : List Oper} {o : Oper} {a : Act} {w : World} {Q : Exit → Act → World → Prop} {x y : Operand} {ts : Array TypeId} (p q n : Nat) (hn : min p q = n) (hgd : o.guard = none)
    (ho : o.op = .call { callee := .builtin .min, args := #[x, y], argTypes := ts }) (hx : a.eval x = .int .i64 (p : Int)) (hy : a.eval y = .int .i64 (q : Int))
    (h : wpList P ops Q rest (a.put o.dst (.int .i64 (n : Int))) w) : wpList P ops Q (o :: rest) a w := by
  refine wpList_plain hgd fun K hK => ?_
  have e : (if (q : Int) < (p : Int) then (q : Int) else (p : Int)) = (n : Int) := by
    subst hn
    by_cases h1 : (q : Int) < (p : Int)
    · rw [if_pos h1]; omega
    · rw [if_neg h1]; omega
  unfold Oper.wp execOp
  simp only [ho, resolve, invoke, builtin, Sem.run_bind, Sem.run_pure, Result.andThen_ok, List.map_toArray, List.map_cons, List.map_nil, hx, hy, run_min_int2, e]
  exact hK _ _ h
theorem size_max (w : World) : Calls Try.prog 17 #[.int .i64 100000] w fun e w' => e = .returned (.int .i64 4) ∧ w = w' := by
  have h := size_nat 100000 w (by omega)
  have e : (digs 100000).length = 3 := by decide +kernel
  rw [e] at h
  exact h

set_option maxHeartbeats 4000000 in
theorem bounds_any (A : Option Addr) (m c : Nat) (l : List (BitVec 8)) (f t : Nat) (w : World) (hx : Sl 1 w A m c (bytesV l)) (hmc : m ≤ c) (hml : m ≤ 1000000000000) (hf : boundsB l = (f, t)) :
    Calls Try.prog 33 #[.slice A m c] w fun e w' => e = .returned (.tuple #[.int .i64 f, .int .i64 t]) ∧ Below w.heap.size w w' := by
  have hl := hx.blen
  obtain ⟨k, hk⟩ : ∃ k, min m 4 = k := ⟨_, rfl⟩
  obtain ⟨A2, hcut, hs⟩ := cut_to hx hmc k (by omega)
  have htk : l.take k = l.take 4 := by
    rcases Nat.lt_or_ge m 4 with q | q
    · rw [List.take_of_length_le (by omega), List.take_of_length_le (by omega)]
    · rw [show k = 4 by omega]
  rw [htk] at hs
  unfold boundsB at hf
  rw [hl] at hf
  have HC := Lib.hid hcut
  have HS := Lib.hid hs
  have HK := Lib.hid hk
  have hkm : k ≤ m := by omega
  clear hcut hs hx htk hl hk
  cases ht : takeB (l.take 4) with
  | none =>
    rw [ht] at hf
    simp only [Prod.mk.injEq] at hf
    obtain ⟨rfl, rfl⟩ := hf
    have HT := Lib.hid (fun w (hs : Sl 1 w A2 k c (bytesV (l.take 4))) => take_bad A2 k c (l.take 4) w (byts_of_sl hs) hs.blen (by omega) ht)
    go_enter Try.func33, Try.ntmps33
    go_wp2_with fail
    refine (size_max _).mono ?_
    rintro e w' ⟨rfl, rfl⟩
    go_wp2_with (first | refine wpList_min2 (o := ⟨some 14, _, _, _, _, _⟩) m 4 k HK.out rfl rfl rfl rfl ?_ | refine wpList_slice_run (o := ⟨some 15, _, _, _, _, _⟩) HC.out rfl rfl rfl rfl rfl rfl ?_)
    refine (HT.out _ HS.out).mono ?_
    rintro e w' ⟨rfl, rfl⟩
    go_wp2
    go_ret2
    exact ⟨rfl, Below.refl _ _⟩
  | some x =>
    obtain ⟨n, s⟩ := x
    rw [ht] at hf
    simp only at hf
    have hn63 := (take_own ht).2
    have hk4 : k ≤ 1000000000000 := by omega
    have HT := Lib.hid (take_ok A2 k c (l.take 4) s n w HS.out (by omega) (by omega) ht)
    have HZ := Lib.hid (size_at n · hn63)
    clear HS ht
    by_cases h1 : 100000 < n
    · rw [if_pos h1] at hf
      simp only [Prod.mk.injEq] at hf
      obtain ⟨rfl, rfl⟩ := hf
      have h1' : (100000 : Int) < (n : Int) := by omega
      go_enter Try.func33, Try.ntmps33
      go_wp2_with fail
      refine (size_max _).mono ?_
      rintro e w' ⟨rfl, rfl⟩
      go_wp2_with (first | refine wpList_min2 (o := ⟨some 14, _, _, _, _, _⟩) m 4 k HK.out rfl rfl rfl rfl ?_ | refine wpList_slice_run (o := ⟨some 15, _, _, _, _, _⟩) HC.out rfl rfl rfl rfl rfl rfl ?_)
      refine HT.out.mono ?_
      rintro e w' ⟨A3, c3, rfl, _, hb⟩
      go_wp2
      go_ret2
      exact ⟨rfl, hb⟩
    · rw [if_neg h1] at hf
      have h1' : ¬ (100000 : Int) < (n : Int) := by omega
      have h4 := one_four (n := n) (by omega)
      generalize (oneB n).length = o at *
      by_cases h2 : m < o + n + 4
      · rw [if_pos h2] at hf
        simp only [Prod.mk.injEq] at hf
        obtain ⟨rfl, rfl⟩ := hf
        have h2' : (m : Int) < (o : Int) + (n : Int) + 4 := by omega
        go_enter Try.func33, Try.ntmps33
        go_wp2_with fail
        refine (size_max _).mono ?_
        rintro e w' ⟨rfl, rfl⟩
        go_wp2_with (first | refine wpList_min2 (o := ⟨some 14, _, _, _, _, _⟩) m 4 k HK.out rfl rfl rfl rfl ?_ | refine wpList_slice_run (o := ⟨some 15, _, _, _, _, _⟩) HC.out rfl rfl rfl rfl rfl rfl ?_)
        refine HT.out.mono ?_
        rintro e w' ⟨A3, c3, rfl, _, hb⟩
        go_wp2_with fail
        refine (HZ.out _).mono ?_
        rintro e w2 ⟨rfl, rfl⟩
        go_wp2
        go_ret2
        exact ⟨rfl, hb⟩
      · rw [if_neg h2] at hf
        simp only [Prod.mk.injEq] at hf
        obtain ⟨rfl, rfl⟩ := hf
        have h2' : ¬ (m : Int) < (o : Int) + (n : Int) + 4 := by omega
        go_enter Try.func33, Try.ntmps33
        go_wp2_with fail
        refine (size_max _).mono ?_
        rintro e w' ⟨rfl, rfl⟩
        go_wp2_with (first | refine wpList_min2 (o := ⟨some 14, _, _, _, _, _⟩) m 4 k HK.out rfl rfl rfl rfl ?_ | refine wpList_slice_run (o := ⟨some 15, _, _, _, _, _⟩) HC.out rfl rfl rfl rfl rfl rfl ?_)
        refine HT.out.mono ?_
        rintro e w' ⟨A3, c3, rfl, _, hb⟩
        go_wp2_with fail
        refine (HZ.out _).mono ?_
        rintro e w2 ⟨rfl, rfl⟩
        go_wp2
        go_ret2
        exact ⟨rfl, hb⟩
end Go.Proofs.Ytfjbpjojpjkfcaa
