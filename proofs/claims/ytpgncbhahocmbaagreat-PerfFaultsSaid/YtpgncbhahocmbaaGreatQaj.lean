/-
  The contracts of package num's functions: what each call answers, at every input; the world is left as it was, but for draws.
-/
import Derived.Test.YtpgncbhahocmbaaGreatProg
import Derived.Test.YtpgncbhahocmbaaGreatQaa
import Derived.WalkKit
import Derived.WalkLawsBesides
import Derived.Below
import Derived.RegionTactic
import Derived.Deep.QuietTactic
import Derived.BigQuiet
import Derived.Lib.Hide
import Derived.IntWalk
namespace Go.Proofs.YtpgncbhahocmbaaGreat
open Go.RowKit

theorem floor_pos (a b : Int) (w : World) (ha : -9223372036854775808 ≤ a) (ha' : a ≤ 9223372036854775807) (hb : 0 < b) (hb' : b ≤ 9223372036854775807) :
    Calls Tryz.prog 159 #[.int .i64 a, .int .i64 b] w fun e w' => e = .returned (.tuple #[.int .i64 (a / b), .int .i64 (a % b)]) ∧ ∃ n, w' = w.drewN n := by
  have l1 := Int.lt_tmod_of_pos a hb
  have l2 := Int.tmod_lt_of_pos a hb
  by_cases h : 0 ≤ a.tmod b
  · go_enter Tryz.func159, Tryz.ntmps159
    go_wp2
    go_quiet (fail)
    go_wp2
    go_ret2
    exact ⟨ret_two (tdiv_pos hb h).1 (tdiv_pos hb h).2, _, rfl⟩
  · have h' : a.tmod b < 0 := by omega
    have hd := tdiv_bd (a := a) (b := b) (by omega) ha ha'
    clear h
    go_enter Tryz.func159, Tryz.ntmps159
    go_wp2
    go_quiet (fail)
    go_wp2
    go_ret2
    exact ⟨ret_two (tdiv_neg hb h').1 (tdiv_neg hb h').2, _, rfl⟩

def halfV (a b : Int) : Int := if b - a % b ≤ a % b then a / b + 1 else a / b

theorem half_zero (a b : Int) (w : World) (hb : b ≤ 0) :
    Calls Tryz.prog 150 #[.int .i64 a, .int .i64 b] w fun e w' => e = .returned (.tuple #[.int .i64 0, .int .i64 20]) ∧ ∃ n, w' = w.drewN n := by
  go_enter Tryz.func150, Tryz.ntmps150
  go_wp2
  go_ret2
  exact ⟨rfl, 0, rfl⟩

theorem half_pos (a b : Int) (w : World) (ha : -9223372036854775808 ≤ a) (ha' : a ≤ 9223372036854775807) (hb : 0 < b) (hb' : b ≤ 9223372036854775807) :
    Calls Tryz.prog 150 #[.int .i64 a, .int .i64 b] w fun e w' => e = .returned (.tuple #[.int .i64 (halfV a b), .int .i64 0]) ∧ ∃ n, w' = w.drewN n := by
  have l1 := Int.emod_nonneg a (show b ≠ 0 by omega)
  have l2 := Int.emod_lt_of_pos a hb
  by_cases h : b - a % b ≤ a % b
  · have hd := ediv_top (a := a) (b := b) (by omega) ha ha'
    have H := Lib.hid (show halfV a b = a / b + 1 from if_pos h)
    go_enter Tryz.func150, Tryz.ntmps150
    go_wp2_with (go_at_call 159; refine (floor_pos _ _ _ ha ha' hb hb').mono ?_; rintro e w' ⟨rfl, n, rfl⟩)
    go_ret2
    exact ⟨ret_two H.out.symm rfl, n, rfl⟩
  · have hd := ediv_bd (a := a) (b := b) (by omega) ha ha'
    have H := Lib.hid (show halfV a b = a / b from if_neg h)
    go_enter Tryz.func150, Tryz.ntmps150
    go_wp2_with (go_at_call 159; refine (floor_pos _ _ _ ha ha' hb hb').mono ?_; rintro e w' ⟨rfl, n, rfl⟩)
    go_ret2
    exact ⟨ret_two H.out.symm rfl, n, rfl⟩

def sideV (n : Int) : Int := if n = -9223372036854775808 then 4611686018427387904 else if n < 0 then -n else n
theorem sideV_bd (n : Int) (h : -9223372036854775808 ≤ n) (h' : n ≤ 9223372036854775807) : 0 ≤ sideV n ∧ sideV n ≤ 9223372036854775807 := by
  unfold sideV; split <;> (try split) <;> omega

theorem side_any (n : Int) (w : World) (h1 : -9223372036854775808 ≤ n) (h2 : n ≤ 9223372036854775807) :
    Calls Tryz.prog 104 #[.int .i64 n] w fun e w' => e = .returned (.int .i64 (sideV n)) ∧ w = w' := by
  by_cases h : n = -9223372036854775808
  · subst h
    clear h1 h2
    go_enter Tryz.func104, Tryz.ntmps104
    go_wp2
    go_ret
    exact ⟨rfl, rfl⟩
  · have g : (n == -9223372036854775808) = false := by simpa using h
    have H := Lib.hid (show sideV n = if n < 0 then -n else n from if_neg h)
    by_cases h0 : n < 0
    · go_enter Tryz.func104, Tryz.ntmps104
      go_wp2
      go_ret
      exact ⟨ret_one (by rw [H.out, if_pos h0]), rfl⟩
    · go_enter Tryz.func104, Tryz.ntmps104
      go_wp2
      go_ret
      exact ⟨ret_one (by rw [H.out, if_neg (by omega)]), rfl⟩

theorem gcd_step {c d : Nat} {g : Int} (h : (Nat.gcd c d : Int) = g) : Hid ((Nat.gcd d (c % d) : Int) = g) := by
  show _ = _
  rw [← h, Nat.gcd_comm d, ← Nat.gcd_rec, Nat.gcd_comm]

def gcdV (a b : Int) : Int := Nat.gcd (sideV a).toNat (sideV b).toNat

theorem gcd_any (a b : Int) (w : World) (ha : -9223372036854775808 ≤ a) (ha' : a ≤ 9223372036854775807) (hb : -9223372036854775808 ≤ b) (hb' : b ≤ 9223372036854775807) :
    Calls Tryz.prog 57 #[.int .i64 a, .int .i64 b] w fun e w' => e = .returned (.int .i64 (gcdV a b)) ∧ ∃ n, w' = w.drewN n := by
  obtain ⟨p0, p1⟩ := sideV_bd a ha ha'
  obtain ⟨q0, q1⟩ := sideV_bd b hb hb'
  go_enter Tryz.func57, Tryz.ntmps57
  go_wp2_with fail
  refine (side_any _ _ ha ha').mono ?_
  rintro e w' ⟨rfl, rfl⟩
  go_wp2_with fail
  refine (side_any _ _ hb hb').mono ?_
  rintro e w' ⟨rfl, rfl⟩
  go_wp2
  go_loopw [0, 1] (fun x y wr => ∃ (c d n : Nat), c ≤ 9223372036854775807 ∧ d ≤ 9223372036854775807 ∧ x = .int .i64 c ∧ y = .int .i64 d ∧ Hid ((Nat.gcd c d : Int) = gcdV a b) ∧ wr = w.drewN n) (fun _ y _ => (intOf y).toNat)
  case atStart => exact ⟨(sideV a).toNat, (sideV b).toNat, 0, by omega, by omega, by rw [Int.toNat_of_nonneg p0], by rw [Int.toNat_of_nonneg q0], rfl, rfl⟩
  case round =>
    obtain ⟨c, d, n, hc, hd, rfl, rfl, hg, rfl⟩ := hrel
    by_cases h : d = 0
    · subst h
      go_wp2
      go_ret
      exact ⟨ret_one (by rw [← hg.out, Nat.gcd_zero_right]), n, rfl⟩
    · have hne : ((d : Int) != 0) = true := by simp; omega
      have hdp : 0 < d := by omega
      go_wp2
      go_quiet (fail)
      go_wp2
      go_roundw
      case rel => exact ⟨d, c % d, _, by omega, by have := Nat.mod_lt c hdp; omega, rfl, rfl, gcd_step hg.out, World.drewN_drewN _ _ _⟩
      case measure => simp [intOf]; have := Nat.mod_lt c hdp; omega

end Go.Proofs.YtpgncbhahocmbaaGreat
