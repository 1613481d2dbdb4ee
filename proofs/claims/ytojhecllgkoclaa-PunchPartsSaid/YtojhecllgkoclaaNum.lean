/-
  The contracts of package num's functions: what each call answers, at every input; the world is left as it was, but for draws.
-/
import Derived.Test.YtojhecllgkoclaaProg
import Derived.Test.YtojhecllgkoclaaPlain
import Derived.Test.YtojhecllgkoclaaBase
import Derived.WalkKit
import Derived.WalkLawsBesides
import Derived.Below
import Derived.RegionTactic
import Derived.Deep.QuietTactic
import Derived.BigQuiet
import Derived.Lib.Hide
import Derived.IntWalk
namespace Go.Proofs.Ytojhecllgkoclaa
open Go.RowKit

theorem floor_pos (a b : Int) (w : World) (ha : -9223372036854775808 ≤ a) (ha' : a ≤ 9223372036854775807) (hb : 0 < b) (hb' : b ≤ 9223372036854775807) :
    Calls Try.prog 40 #[.int .i64 a, .int .i64 b] w fun e w' => e = .returned (.tuple #[.int .i64 (a / b), .int .i64 (a % b)]) ∧ ∃ n, w' = w.drewN n := by
  have l1 := Int.lt_tmod_of_pos a hb
  have l2 := Int.tmod_lt_of_pos a hb
  by_cases h : 0 ≤ a.tmod b
  · go_enter Try.func40, Try.ntmps40
    go_wp2
    go_quiet (fail)
    go_wp2
    go_ret2
    exact ⟨ret_two (tdiv_pos hb h).1 (tdiv_pos hb h).2, _, rfl⟩
  · have h' : a.tmod b < 0 := by omega
    have hd := tdiv_bd (a := a) (b := b) (by omega) ha ha'
    clear h
    go_enter Try.func40, Try.ntmps40
    go_wp2
    go_quiet (fail)
    go_wp2
    go_ret2
    exact ⟨ret_two (tdiv_neg hb h').1 (tdiv_neg hb h').2, _, rfl⟩

def halfV (a b : Int) : Int := if b - a % b ≤ a % b then a / b + 1 else a / b

theorem half_zero (a b : Int) (w : World) (hb : b ≤ 0) :
    Calls Try.prog 30 #[.int .i64 a, .int .i64 b] w fun e w' => e = .returned (.tuple #[.int .i64 0, .int .i64 20]) ∧ ∃ n, w' = w.drewN n := by
  go_enter Try.func30, Try.ntmps30
  go_wp2
  go_ret2
  exact ⟨rfl, 0, rfl⟩

theorem half_pos (a b : Int) (w : World) (ha : -9223372036854775808 ≤ a) (ha' : a ≤ 9223372036854775807) (hb : 0 < b) (hb' : b ≤ 9223372036854775807) :
    Calls Try.prog 30 #[.int .i64 a, .int .i64 b] w fun e w' => e = .returned (.tuple #[.int .i64 (halfV a b), .int .i64 0]) ∧ ∃ n, w' = w.drewN n := by
  have l1 := Int.emod_nonneg a (show b ≠ 0 by omega)
  have l2 := Int.emod_lt_of_pos a hb
  by_cases h : b - a % b ≤ a % b
  · have hd := ediv_top (a := a) (b := b) (by omega) ha ha'
    have H := Lib.hid (show halfV a b = a / b + 1 from if_pos h)
    go_enter Try.func30, Try.ntmps30
    go_wp2_with (go_at_call 40; refine (floor_pos _ _ _ ha ha' hb hb').mono ?_; rintro e w' ⟨rfl, n, rfl⟩)
    go_ret2
    exact ⟨ret_two H.out.symm rfl, n, rfl⟩
  · have hd := ediv_bd (a := a) (b := b) (by omega) ha ha'
    have H := Lib.hid (show halfV a b = a / b from if_neg h)
    go_enter Try.func30, Try.ntmps30
    go_wp2_with (go_at_call 40; refine (floor_pos _ _ _ ha ha' hb hb').mono ?_; rintro e w' ⟨rfl, n, rfl⟩)
    go_ret2
    exact ⟨ret_two H.out.symm rfl, n, rfl⟩

end Go.Proofs.Ytojhecllgkoclaa
