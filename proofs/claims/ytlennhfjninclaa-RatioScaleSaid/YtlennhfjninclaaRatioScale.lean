/-
  The walk of the law RatioScale: it answers true, and leaves what was there as it was.
-/
import Derived.Test.YtlennhfjninclaaRatAwake
namespace Go.Proofs.Ytlennhfjninclaa
open Go.RowKit
set_option linter.unusedVariables false

theorem mkC_zero {n d : Int} (h : 0 < d) : (mkC n d == 20) = false := by
  have : ¬ mkC n d = 20 := by
    unfold mkC
    rw [if_neg (by omega)]
    split <;> omega
  simpa using this

theorem ratioScale_walk (n d k : Int) (w : World) (hn : -2147483648 ≤ n) (hn' : n ≤ 2147483647) (hd : 0 ≤ d) (hd' : d ≤ 65535) (hk : 0 ≤ k) (hk' : k ≤ 65535) :
    Calls Try.prog 8 #[.int .i32 n, .int .u16 d, .int .u16 k] w fun e w' => e = .returned (.bool true) ∧ Below w.heap.size w w' := by
  obtain ⟨m1, m2, m3⟩ := mk_scale n d (k + 1) (by omega)
  have M1 := Lib.hid m1
  have M2 := Lib.hid m2
  have M3 := Lib.hid m3
  clear m1 m2 m3
  have p1 : -140737488355328 ≤ n * (k + 1) ∧ n * (k + 1) ≤ 140737488355328 := by
    have h : (n * (k + 1)).natAbs = n.natAbs * (k + 1).natAbs := Int.natAbs_mul _ _
    have : n.natAbs * (k + 1).natAbs ≤ 2147483648 * 65536 := Nat.mul_le_mul (by omega) (by omega)
    omega
  have p2 : -4294901760 ≤ d * (k + 1) ∧ d * (k + 1) ≤ 4294901760 := by
    have h : (d * (k + 1)).natAbs = d.natAbs * (k + 1).natAbs := Int.natAbs_mul _ _
    have : d.natAbs * (k + 1).natAbs ≤ 65535 * 65536 := Nat.mul_le_mul (by omega) (by omega)
    omega
  by_cases h0 : d = 0
  · subst h0
    go_enter Try.func8, Try.ntmps8
    go_wp2_with fail
    refine (awake2 _).mono ?_
    rintro e w1 ⟨rfl, hb1⟩
    go_wp2_with fail
    refine (make_any _ _ _ (by omega) (by omega) (by omega) (by omega)).mono ?_
    rintro e w2 ⟨rfl, hb2⟩
    replace hb2 := bel_on hb1 hb2
    clear hb1
    rw [(mk_neg (n := n) (d := 0) (by omega)).1, (mk_neg (n := n) (d := 0) (by omega)).2.1, (mk_neg (n := n) (d := 0) (by omega)).2.2]
    go_wp2_with fail
    refine (make_any _ _ _ (by omega) (by omega) (by omega) (by omega)).mono ?_
    rw [(mk_neg (n := n * (k + 1)) (d := 0) (by omega)).1, (mk_neg (n := n * (k + 1)) (d := 0) (by omega)).2.1, (mk_neg (n := n * (k + 1)) (d := 0) (by omega)).2.2]
    rintro e w3 ⟨rfl, hb3⟩
    have R : Has w3 w2.heap.size #[.int .i64 0, .int .i64 0] := (Has.new _ _ _ rfl).below hb3
    replace hb3 := bel_on (bel_alloc hb2 _) hb3
    clear hb2
    obtain ⟨c0, c1, _, _⟩ := R.two
    have z := R.size
    go_wp2
    go_ret
    exact ⟨rfl, bel_alloc hb3 _⟩
  · have g0 : (d == 0) = false := by simpa using h0
    have g1 := mkC_zero (n := n) (d := d) (by omega)
    clear h0
    go_enter Try.func8, Try.ntmps8
    go_wp2_with fail
    refine (awake2 _).mono ?_
    rintro e w1 ⟨rfl, hb1⟩
    go_wp2_with fail
    refine (make_any _ _ _ (by omega) (by omega) (by omega) (by omega)).mono ?_
    rintro e w2 ⟨rfl, hb2⟩
    replace hb2 := bel_on hb1 hb2
    clear hb1
    go_wp2_with fail
    refine (make_any _ _ _ (by omega) (by omega) (by omega) (by omega)).mono ?_
    rw [M1.out, M2.out, M3.out]
    rintro e w3 ⟨rfl, hb3⟩
    have R : Has w3 w2.heap.size #[.int .i64 (mkN n d), .int .i64 (mkD n d)] := (Has.new _ _ _ rfl).below hb3
    replace hb3 := bel_on (bel_alloc hb2 _) hb3
    clear hb2
    obtain ⟨c0, c1, _, _⟩ := R.two
    have z := R.size
    go_wp2
    go_ret
    exact ⟨rfl, bel_alloc hb3 _⟩
end Go.Proofs.Ytlennhfjninclaa
